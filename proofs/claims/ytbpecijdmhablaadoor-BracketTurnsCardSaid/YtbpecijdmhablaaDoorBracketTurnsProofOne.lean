/- What is proved: whatever the items and the flags that it is handed, the law BracketTurns returns true, and each argument reads behind the call as it read before. Conditions: the listed variables read as the program's text says (tied). -/
import Derived.Test.YtbpecijdmhablaaDoorBrSpec
import Derived.Test.YtbpecijdmhablaaDoorOcWalks
import Derived.Test.YtbpecijdmhablaaDoorBrRef7
import Derived.Test.YtbpecijdmhablaaDoorBrMath2
import Derived.Test.YtbpecijdmhablaaDoorClKnown
import Derived.Test.YtbpecijdmhablaaDoorBrOne
import Derived.Test.YtbpecijdmhablaaDoorOcWalks2
import Derived.ProofKit
import Derived.OpenShut
import Derived.ChangeOld
import Derived.Deep.Slices
import Derived.Laws.IdiomArrays
import Derived.Lib.SmallJoins
import Derived.Test.YtbpecijdmhablaaDoorErPlace
import Derived.Lib.LaidTab
import Derived.Lib.ItoaNum
import Derived.Lib.AppendIntMem
import Derived.Test.YtbpecijdmhablaaDoorErAll
import Derived.LaidHandle
import Derived.LaidLaws
import Derived.Test.YtbpecijdmhablaaDoorBrDo
import Derived.Test.YtbpecijdmhablaaDoorCards
import Derived.Test.YtbpecijdmhablaaDoorTie
import Derived.SizedLaws
import Derived.ChangeMaps5
import Derived.SevenTiedAt
import Derived.Deep.DeepWitnessRowRef
/- The fixed facts that every statement of bracket begins with, out of what Read is to answer. -/
namespace Go.Proofs.YtbpecijdmhablaaDoor
open Go.RowKit
def brT1 : ByteArray := ⟨#[91, 97, 45, 99, 45, 101, 93]⟩
def brT2 : ByteArray := ⟨#[91, 98, 45, 97, 93]⟩
def brP1 : Nat → Bool := fun x => ((false || Br.rng 97 99 x) || x == 45) || x == 101
theorem rd1 : rdI brT1 0 (icB 0) (nlB 0) = .ok brP1 7 := by
  have h1 : icB 0 = false := by decide
  have h2 : nlB 0 = false := by decide
  rw [h1, h2]
  rfl
theorem rd2 : rdI brT2 0 (icB 0) (nlB 0) = .err 5 1 := by
  have h1 : icB 0 = false := by decide
  have h2 : nlB 0 = false := by decide
  rw [h1, h2]
  rfl
theorem cnt1 : Oc.cnt (Oc.mem (Oc.mk brP1 0) (Oc.mk brP1 1) (Oc.mk brP1 2) (Oc.mk brP1 3)) 256 = 5 := by decide +kernel
theorem mem1 : Oc.mem (Oc.mk brP1 0) (Oc.mk brP1 1) (Oc.mk brP1 2) (Oc.mk brP1 3) 45 = true := by decide +kernel
set_option maxRecDepth 100000 in
set_option maxHeartbeats 2000000 in
theorem brlives_any (D : BrDoes) (A : Nat → Addr) (w : World) (hE : BrEnv w A) (hT : ErrType w) : Calls Tryd.prog 6 #[] w fun e w' => e = .returned (.bool true) ∧ Below w.heap.size w w' := by
  have HE := Lib.hid hE; have HT := Lib.hid hT
  have HD := Lib.hid D.read
  have C1 := Lib.hid cnt1; have M1 := Lib.hid mem1
  clear hE hT D
  go_enter Tryd.func6, Tryd.ntmps6
  go_wp2_with fail
  refine (HD.out A brT1 0 0 _ HE.out (by decide) (by decide) (by decide)).mono ?_
  intro e w1 he
  obtain ⟨rfl, hb1⟩ := he.ok rd1
  clear he
  have HB1 := Lib.hid (hb1.alloc hb1.size (.cells #[.int .u64 (Oc.U (Oc.mk brP1 0)), .int .u64 (Oc.U (Oc.mk brP1 1)), .int .u64 (Oc.U (Oc.mk brP1 2)), .int .u64 (Oc.U (Oc.mk brP1 3))] 25))
  clear hb1
  go_wp2_with fail
  refine (HD.out A brT2 0 0 _ (HE.out.below HB1.out) (by decide) (by decide) (by decide)).mono ?_
  intro e w2 he
  obtain ⟨v, rfl, hv, hb2⟩ := he.err rd2
  clear he
  have Z2 := Lib.hid (heap_alloc_lt (o := .cells #[.int .u64 0, .int .u64 0, .int .u64 0, .int .u64 0] 25) (keep_blk hb2 (heap_alloc_new w1 _)))
  have hb2' := HB1.out.trans (hb2.mono HB1.out.size)
  have HB2 := Lib.hid (hb2'.alloc hb2'.size (.cells #[.int .u64 0, .int .u64 0, .int .u64 0, .int .u64 0] 25))
  have hv2 := hv.later ((Below.refl w2.heap.size w2).alloc (Nat.le_refl _) (.cells #[.int .u64 0, .int .u64 0, .int .u64 0, .int .u64 0] 25))
  obtain ⟨t, q, rfl⟩ := hv.iface
  have HV := Lib.hid hv2
  clear hb2 hb2' hv hv2
  have HE2 := Lib.hid (HE.out.below HB2.out); have HT2 := Lib.hid (HT.out.later HB2.out)
  obtain ⟨c0, c1, c2, c3, -⟩ := four Z2.out
  go_wp2_with fail
  refine (count_any _ _ _ _ _).mono ?_; rintro e w4 ⟨rfl, hb4⟩
  clear c0 c1 c2 c3
  have n5 : Oc.cnt (Oc.mem (Oc.mk brP1 0) (Oc.mk brP1 1) (Oc.mk brP1 2) (Oc.mk brP1 3)) 256 = 5 := C1.out
  obtain ⟨c0, c1, c2, c3, -⟩ := four (keep_blk hb4 Z2.out)
  have Z4 := Lib.hid (keep_blk hb4 Z2.out); have HB4 := Lib.hid (HB2.out.trans (hb4.mono HB2.out.size)); have HE4 := Lib.hid (HE2.out.below hb4); have HT4 := Lib.hid (HT2.out.later hb4); have HV4 := Lib.hid (HV.out.later hb4)
  clear hb4
  go_wp2_with fail
  refine (has_any _ _ _ _ 45 (by omega) _).mono ?_; rintro e w5 ⟨rfl, hb5⟩
  clear c0 c1 c2 c3 n5
  have m1 : Oc.mem (Oc.mk brP1 0) (Oc.mk brP1 1) (Oc.mk brP1 2) (Oc.mk brP1 3) 45 = true := M1.out
  rw [m1]
  have HB5 := Lib.hid (HB4.out.trans (hb5.mono HB4.out.size)); have HE5 := Lib.hid (HE4.out.below hb5); have HT5 := Lib.hid (HT4.out.later hb5); have HV5 := Lib.hid (HV4.out.later hb5)
  clear hb5 m1
  go_wp2_with fail
  refine (HV5.out.num HE5.out).mono ?_; rintro e w6 ⟨rfl, hb6⟩
  have HB6 := Lib.hid (HB5.out.trans (hb6.mono HB5.out.size)); have HT6 := Lib.hid (HT5.out.later hb6); have HV6 := Lib.hid (HV5.out.later hb6)
  clear hb6
  go_wp2_with fail
  refine (HV6.out.place HT6.out).mono ?_; rintro e w7 ⟨rfl, hb7⟩
  have HB7 := Lib.hid (HB6.out.trans (hb7.mono HB6.out.size))
  clear hb7
  go_wp2
  go_ret
  exact ⟨rfl, HB7.out⟩
end Go.Proofs.YtbpecijdmhablaaDoor
/- What stands ahead of an expression and behind it: what is read of the three texts in one. -/
namespace Go.Proofs.YtbpecijdmhablaaDoor
open Go.RowKit
theorem bt_append (x y : ByteArray) (i : Nat) : bt (x ++ y) i = if i < x.size then bt x i else bt y (i - x.size) := by
  have hs : (x ++ y).size = x.size + y.size := ByteArray.size_append
  unfold bt byteAt
  rw [hs]
  have hd : (x ++ y).data = x.data ++ y.data := ByteArray.data_append
  have hx : x.data.size = x.size := rfl
  by_cases h : i < x.size
  · rw [if_pos h, if_pos h, if_pos (by omega)]
    congr 1
    rw [hd]
    simp [Array.getD_eq_getD_getElem?, Array.getElem?_append, hx, h]
  · rw [if_neg h]
    by_cases h2 : i < x.size + y.size
    · rw [if_pos h2, if_pos (by omega)]
      congr 1
      rw [hd]
      simp [Array.getD_eq_getD_getElem?, Array.getElem?_append, hx, h]
    · rw [if_neg h2, if_neg (by omega)]
theorem toList_pos {s : ByteArray} (h : 0 < s.size) : s.toList ≠ [] := by
  rw [toList_eq]
  intro hl
  have hz : s.size = 0 := by have := congrArg List.length hl; simpa using this
  omega
/-- A range that goes on behind the end: the law's own words. -/
def Special (p behind : ByteArray) (c : Nat) (pl : Int) : Prop :=
  c = 5 ∧ 2 < p.size ∧ bt p (p.size - 1) = 91 ∧ pl = (p.size : Int) - 3 ∧ 0 < behind.size ∧ (bt behind 0 = 46 ∨ bt behind 0 = 61)
namespace Br
theorem whole_cases {f : Nat → Nat} {n : Nat} {ic nl : Bool} : read f n 0 ic nl = if f 0 = 91 then whole f n 0 ic nl else .err 15 (-1) := by
  unfold read
  by_cases h : f 0 = 91
  · rw [if_pos h, if_pos ⟨Int.le_refl _, h⟩]; rfl
  · rw [if_neg h, if_neg (fun hh => h hh.2)]
/-- What is read at the beginning of f is read in g, s places on. -/
theorem read_in {f g : Nat → Nat} {n N s : Nat} {ic nl : Bool} (hf : Txt f n) (hw : Within f g n N s) (h0 : f 0 = 91) (h : ∀ p, read f n 0 ic nl ≠ .err 1 p) :
    (∃ i', i' + 3 = n ∧ read f n 0 ic nl = .err 5 (i' : Nat) ∧ Open f g n s ∧ read g N s ic nl = .err 7 ((n : Int) - 1 + s)) ∨
    ((∀ i', i' + 3 = n → read f n 0 ic nl = .err 5 (i' : Nat) → ¬ Open f g n s) ∧ read g N s ic nl = sh s s (read f n 0 ic nl)) := by
  have hn : 0 < n := hf.lt h0 (by omega)
  have hg0 : g s = 91 := by have := hw.same 0 hn; rw [Nat.zero_add] at this; rw [this]; exact h0
  have hrg : read g N s ic nl = whole g N s ic nl := by
    unfold read; rw [if_pos ⟨by omega, by simpa using hg0⟩]; rfl
  rw [whole_cases, if_pos h0] at h ⊢
  rw [hrg]
  unfold whole at h ⊢
  have hfit := hw.fit
  -- the second byte stands in f
  have h1n : 1 < n := by
    by_cases h1 : 1 < n
    · exact h1
    · exfalso
      have hn1 : n = 1 := by omega
      subst hn1
      have hf1 : f 1 = 256 := hf.2 1 (by omega)
      simp only [Nat.zero_add, hf1] at h
      exact h 0 (by simp [items, ends, hf1])
  have hg1 : g (s + 1) = f (0 + 1) := by rw [← hw.same (0 + 1) (by omega)]; congr 1; omega
  rw [hg1]
  simp only at h ⊢
  generalize ht : (f (0 + 1) == 94) = t at h ⊢
  have hi0 : (if t then 0 + 2 else 0 + 1) ≤ n := by split <;> omega
  have hi1 : (if t then s + 2 else s + 1) = (if t then 0 + 2 else 0 + 1) + s := by split <;> omega
  rw [hi1]
  generalize (if t then 0 + 2 else 0 + 1) = i at h hi0 ⊢
  have hne : ∀ p, items f n 0 (n + 1) i (fun _ => false) false ≠ .err 1 p := fun p hp => h p (by rw [hp]; rfl)
  rcases items_in (a := 0) (a' := s) hf hw (k := n + 1) (k' := N + 1) hi0 (by omega) hne with ⟨i', h3, he, ho, hg⟩ | ⟨hno, hg⟩
  · left
    exact ⟨i', h3, by rw [he]; rfl, ho, by rw [hg]; rfl⟩
  · right
    refine ⟨fun i' h3 he => hno i' h3 ?_, ?_⟩
    · cases hx : items f n 0 (n + 1) i (fun _ => false) false with
      | ok P j => rw [hx] at he; cases he
      | err c p => rw [hx] at he; exact he
    · rw [hg]
      cases hx : items f n 0 (n + 1) i (fun _ => false) false with
      | ok P j => simp only [sh, ends]; congr 1; omega
      | err c p =>
        by_cases hc : c = 1
        · simp [ends, sh, hc]
        · simp [ends, sh, hc]
theorem read_ok {f : Nat → Nat} {n m : Nat} {ic nl : Bool} {P : Nat → Bool} (hf : Txt f n) (h : read f n 0 ic nl = .ok P m) : f 0 = 91 ∧ 3 ≤ m ∧ m ≤ n ∧ f (m - 1) = 93 := by
  rw [whole_cases] at h
  split at h
  · rename_i h0
    unfold whole at h
    simp only at h
    generalize ht : (f (0 + 1) == 94) = t at h
    have hn : 0 < n := hf.lt h0 (by omega)
    have hi0 : (if t then 0 + 2 else 0 + 1) ≤ n := by
      cases t with
      | true => have := hf.lt (beq_iff_eq.1 ht) (by omega); simp; omega
      | false => simp; omega
    have hi1 : 1 ≤ (if t then 0 + 2 else 0 + 1) := by split <;> omega
    generalize (if t then 0 + 2 else 0 + 1) = i at h hi0 hi1
    cases hx : items f n 0 (n + 1) i (fun _ => false) false with
    | err c p => rw [hx] at h; cases h
    | ok Q j =>
      rw [hx] at h
      obtain ⟨g1, g2, g3, -⟩ := items_ok hf hi0 hx
      simp only [ends, Ans.ok.injEq] at h
      simp only [Bool.false_eq_true, if_false] at g3
      obtain ⟨-, rfl⟩ := h
      exact ⟨h0, by omega, by omega, by simpa using g1⟩
  · cases h
theorem read_err {f : Nat → Nat} {n c : Nat} {ic nl : Bool} {p : Int} (h : read f n 0 ic nl = .err c p) : (c = 1 ∧ p = 0) ∨ c = 5 ∨ c = 6 ∨ c = 7 ∨ (c = 15 ∧ p = -1 ∧ f 0 ≠ 91) := by
  rw [whole_cases] at h
  split at h
  · unfold whole at h
    simp only at h
    generalize (if (f (0 + 1) == 94) = true then 0 + 2 else 0 + 1) = i at h
    cases hx : items f n 0 (n + 1) i (fun _ => false) false with
    | ok Q j => rw [hx] at h; cases h
    | err c' p' =>
      rw [hx] at h
      simp only [ends, Ans.err.injEq] at h
      obtain ⟨rfl, rfl⟩ := h
      rcases items_err hx with h | h | h | h
      · exact .inl h
      · exact .inr (.inl h)
      · exact .inr (.inr (.inl h))
      · exact .inr (.inr (.inr (.inl h)))
  · rename_i h0
    cases h
    exact .inr (.inr (.inr (.inr ⟨rfl, rfl, h0⟩)))
theorem item_place {f : Nat → Nat} {n i a c : Nat} {p : Int} (hi : i < n) (ha : a ≤ n) (h : item f n i a = .err c p) : 0 ≤ p ∧ p ≤ n + 2 := by
  unfold item at h
  split at h
  · cases h; omega
  split at h
  · unfold classed at h
    split at h
    · cases h; omega
    · unfold named at h
      split at h
      · cases h; omega
      · cases h
  split at h
  · unfold ranged at h
    split at h
    · cases h; omega
    split at h
    · cases h; omega
    · cases h
  · cases h
theorem items_place {f : Nat → Nat} {n a c : Nat} {p : Int} (ha : a ≤ n) : ∀ {k i : Nat} {P : Nat → Bool} {b : Bool}, items f n a k i P b = .err c p → 0 ≤ p ∧ p ≤ n + 2
  | 0, _, _, _, h => by cases h; omega
  | k + 1, i, P, b, h => by
    unfold items at h
    split at h
    · cases h
    split at h
    · cases h; omega
    rename_i hi
    split at h
    · rename_i he
      cases h; exact item_place (by omega) ha he
    · exact items_place ha h
theorem read_place {f : Nat → Nat} {n c : Nat} {ic nl : Bool} {p : Int} (h : read f n 0 ic nl = .err c p) (hc : c ≠ 15) : 0 ≤ p ∧ p ≤ n + 2 := by
  rw [whole_cases] at h
  split at h
  · unfold whole at h
    simp only at h
    generalize (if (f (0 + 1) == 94) = true then 0 + 2 else 0 + 1) = i at h
    cases hx : items f n 0 (n + 1) i (fun _ => false) false with
    | ok Q j => rw [hx] at h; cases h
    | err c' p' =>
      rw [hx] at h
      simp only [ends, Ans.err.injEq] at h
      obtain ⟨rfl, rfl⟩ := h
      exact items_place (Nat.zero_le _) hx
  · cases h; exact absurd rfl hc
end Br
theorem within_append (ahead p behind : ByteArray) : Br.Within (bt p) (bt (ahead ++ p ++ behind)) p.size (ahead ++ p ++ behind).size ahead.size where
  fit := by rw [ByteArray.size_append, ByteArray.size_append]; omega
  same j hj := by
    rw [bt_append, if_pos (by rw [ByteArray.size_append]; omega), bt_append, if_neg (by omega)]
    congr 1; omega
theorem open_append (ahead p behind : ByteArray) : Br.Open (bt p) (bt (ahead ++ p ++ behind)) p.size ahead.size ↔ bt p (p.size - 1) = 91 ∧ 0 < behind.size ∧ (bt behind 0 = 46 ∨ bt behind 0 = 61) := by
  unfold Br.Open
  have : bt (ahead ++ p ++ behind) (p.size + ahead.size) = bt behind 0 := by
    rw [bt_append, if_neg (by rw [ByteArray.size_append]; omega)]
    congr 1; rw [ByteArray.size_append]; omega
  rw [this]
  constructor
  · rintro ⟨h1, h2⟩
    refine ⟨h1, ?_, h2⟩
    rcases h2 with h | h <;> exact (bt_txt behind).lt h (by omega)
  · rintro ⟨h1, -, h2⟩; exact ⟨h1, h2⟩
theorem stays_ok {ahead p behind : ByteArray} {ic nl : Bool} {P : Nat → Bool} {m : Nat} (h : rdI p 0 ic nl = .ok P m) :
    rdI (ahead ++ p ++ behind) ahead.size ic nl = .ok P (m + ahead.size) ∧ 3 ≤ m ∧ m ≤ p.size ∧ bt p 0 = 91 ∧ bt p (m - 1) = 93 := by
  unfold rdI at h ⊢
  obtain ⟨h0, h1, h2, h3⟩ := Br.read_ok (bt_txt p) h
  refine ⟨?_, h1, h2, h0, h3⟩
  rcases Br.read_in (bt_txt p) (within_append ahead p behind) (ic := ic) (nl := nl) h0 (fun q hq => by rw [h] at hq; cases hq) with ⟨i', -, he, -⟩ | ⟨-, hg⟩
  · rw [h] at he; cases he
  · rw [hg, h]; rfl
theorem stays_err {ahead p behind : ByteArray} {ic nl : Bool} {c : Nat} {pl : Int} (h : rdI p 0 ic nl = .err c pl) :
    (c = 1 ∧ pl = 0) ∨ (c = 15 ∧ pl = -1 ∧ bt p 0 ≠ 91) ∨
    ((c = 5 ∨ c = 6 ∨ c = 7) ∧ ((Special p behind c pl ∧ rdI (ahead ++ p ++ behind) ahead.size ic nl = .err 7 ((p.size : Int) - 1 + ahead.size)) ∨
      (¬ Special p behind c pl ∧ rdI (ahead ++ p ++ behind) ahead.size ic nl = .err c (pl + ahead.size)))) := by
  unfold rdI at h ⊢
  have key : c ≠ 1 → bt p 0 = 91 → ((Special p behind c pl ∧ Br.read (bt (ahead ++ p ++ behind)) (ahead ++ p ++ behind).size ahead.size ic nl = .err 7 ((p.size : Int) - 1 + ahead.size)) ∨
      (¬ Special p behind c pl ∧ Br.read (bt (ahead ++ p ++ behind)) (ahead ++ p ++ behind).size ahead.size ic nl = .err c (pl + ahead.size))) := by
    intro h1 h0
    rcases Br.read_in (bt_txt p) (within_append ahead p behind) (ic := ic) (nl := nl) h0 (fun q hq => by rw [h] at hq; simp only [Br.Ans.err.injEq] at hq; exact h1 hq.1) with ⟨i', h3, he, ho, hg⟩ | ⟨hno, hg⟩
    · rw [h] at he
      simp only [Br.Ans.err.injEq] at he
      obtain ⟨rfl, rfl⟩ := he
      obtain ⟨o1, o2, o3⟩ := (open_append ahead p behind).1 ho
      exact .inl ⟨⟨rfl, by omega, o1, by omega, o2, o3⟩, hg⟩
    · refine .inr ⟨?_, ?_⟩
      · rintro ⟨rfl, s1, s2, rfl, s3, s4⟩
        exact hno (p.size - 3) (by omega) (by rw [h]; congr 1; omega) ((open_append ahead p behind).2 ⟨s2, s3, s4⟩)
      · rw [hg, h]; simp [Br.sh, h1]
  have h91 : c ≠ 15 → bt p 0 = 91 := by
    intro hc
    by_cases h0 : bt p 0 = 91
    · exact h0
    · rw [Br.whole_cases, if_neg h0] at h
      simp only [Br.Ans.err.injEq] at h
      exact absurd h.1.symm hc
  rcases Br.read_err h with h1 | rfl | rfl | rfl | h1
  · exact .inl h1
  · exact .inr (.inr ⟨.inl rfl, key (by omega) (h91 (by omega))⟩)
  · exact .inr (.inr ⟨.inr (.inl rfl), key (by omega) (h91 (by omega))⟩)
  · exact .inr (.inr ⟨.inr (.inr rfl), key (by omega) (h91 (by omega))⟩)
  · exact .inr (.inl h1)
end Go.Proofs.YtbpecijdmhablaaDoor
/- The turned expression of the same items: what is read of both. -/
namespace Go.Proofs.YtbpecijdmhablaaDoor
open Go.RowKit
theorem ofInt_wrap (n : Int) : BitVec.ofInt 64 (IntKind.i64.wrap n) = BitVec.ofInt 64 n := by
  apply BitVec.eq_of_toNat_eq
  rw [BitVec.toNat_ofInt, BitVec.toNat_ofInt, IntKind.wrap_i64]
  omega
theorem ofNat_self (x : BitVec 64) : BitVec.ofNat 64 x.toNat = x := BitVec.eq_of_toNat_eq (by rw [BitVec.toNat_ofNat, Nat.mod_eq_of_lt x.isLt])
theorem ofInt_and (x y : Int) : BitVec.ofInt 64 (bits .and .i64 x y) = BitVec.ofInt 64 x &&& BitVec.ofInt 64 y := by
  show BitVec.ofInt 64 (IntKind.i64.wrap ((BitVec.ofInt 64 x &&& BitVec.ofInt 64 y).toNat : Int)) = _
  rw [ofInt_wrap, BitVec.ofInt_natCast, ofNat_self]
theorem ofInt_or (x y : Int) : BitVec.ofInt 64 (bits .or .i64 x y) = BitVec.ofInt 64 x ||| BitVec.ofInt 64 y := by
  show BitVec.ofInt 64 (IntKind.i64.wrap ((BitVec.ofInt 64 x ||| BitVec.ofInt 64 y).toNat : Int)) = _
  rw [ofInt_wrap, BitVec.ofInt_natCast, ofNat_self]
theorem ofInt_andNot (x y : Int) : BitVec.ofInt 64 (bits .andNot .i64 x y) = BitVec.ofInt 64 x &&& ~~~BitVec.ofInt 64 y := by
  show BitVec.ofInt 64 (IntKind.i64.wrap ((BitVec.ofInt 64 x &&& ~~~BitVec.ofInt 64 y).toNat : Int)) = _
  rw [ofInt_wrap, BitVec.ofInt_natCast, ofNat_self]
theorem ic_and2 (fl : Int) : icB (bits .and .i64 fl 2) = icB fl := by
  unfold icB; rw [ofInt_and, BitVec.getLsbD_and, show (BitVec.ofInt 64 2).getLsbD 1 = true by decide, Bool.and_true]
theorem nl_and2 (fl : Int) : nlB (bits .and .i64 fl 2) = false := by
  unfold nlB; rw [ofInt_and, BitVec.getLsbD_and, show (BitVec.ofInt 64 2).getLsbD 2 = false by decide, Bool.and_false]
theorem ic_or4 (fl : Int) : icB (bits .or .i64 fl 4) = icB fl := by
  unfold icB; rw [ofInt_or, BitVec.getLsbD_or, show (BitVec.ofInt 64 4).getLsbD 1 = false by decide, Bool.or_false]
theorem nl_or4 (fl : Int) : nlB (bits .or .i64 fl 4) = true := by
  unfold nlB; rw [ofInt_or, BitVec.getLsbD_or, show (BitVec.ofInt 64 4).getLsbD 2 = true by decide, Bool.or_true]
theorem ic_not4 (fl : Int) : icB (bits .andNot .i64 fl 4) = icB fl := by
  unfold icB; rw [ofInt_andNot, BitVec.getLsbD_and, show (~~~BitVec.ofInt 64 4).getLsbD 1 = true by decide, Bool.and_true]
theorem nl_not4 (fl : Int) : nlB (bits .andNot .i64 fl 4) = false := by
  unfold nlB; rw [ofInt_andNot, BitVec.getLsbD_and, show (~~~BitVec.ofInt 64 4).getLsbD 2 = false by decide, Bool.and_false]
namespace Br
theorem items_fuel {f : Nat → Nat} {n a : Nat} : ∀ {k i : Nat} {P : Nat → Bool} {b : Bool}, i ≤ n → n < i + k → items f n a (k + 1) i P b = items f n a k i P b
  | 0, i, P, b, hi, h => by omega
  | k + 1, i, P, b, hi, h => by
    rw [items, items]
    split
    · rfl
    split
    · rfl
    rename_i hi
    cases he : item f n i a with
    | err c p => rfl
    | ok Q j =>
      obtain ⟨h1, h2⟩ := item_next (by omega) he
      exact items_fuel h2 (by omega)
end Br
/-- What the items answer of both expressions. -/
def itsOf (x : ByteArray) : Br.Ans := Br.items (bt (⟨#[91]⟩ ++ x ++ ⟨#[93]⟩)) (x.size + 2) 0 (x.size + 3) 1 (fun _ => false) false
theorem size_p (x : ByteArray) : (⟨#[91]⟩ ++ x ++ ⟨#[93]⟩ : ByteArray).size = x.size + 2 := by
  rw [ByteArray.size_append, ByteArray.size_append]; show 1 + x.size + 1 = _; omega
theorem size_q (x : ByteArray) : (⟨#[91, 94]⟩ ++ x ++ ⟨#[93]⟩ : ByteArray).size = x.size + 3 := by
  rw [ByteArray.size_append, ByteArray.size_append]; show 2 + x.size + 1 = _; omega
theorem bt_p0 (x : ByteArray) : bt (⟨#[91]⟩ ++ x ++ ⟨#[93]⟩) 0 = 91 := by
  rw [bt_append, if_pos (by rw [ByteArray.size_append]; show 0 < 1 + x.size; omega), bt_append, if_pos (by decide)]; decide
theorem bt_q0 (x : ByteArray) : bt (⟨#[91, 94]⟩ ++ x ++ ⟨#[93]⟩) 0 = 91 := by
  rw [bt_append, if_pos (by rw [ByteArray.size_append]; show 0 < 2 + x.size; omega), bt_append, if_pos (by decide)]; decide
theorem bt_q1 (x : ByteArray) : bt (⟨#[91, 94]⟩ ++ x ++ ⟨#[93]⟩) 1 = 94 := by
  rw [bt_append, if_pos (by rw [ByteArray.size_append]; show 1 < 2 + x.size; omega), bt_append, if_pos (by decide)]; decide
theorem bt_shift (x : ByteArray) (j : Nat) (hj : 1 ≤ j) : bt (⟨#[91, 94]⟩ ++ x ++ ⟨#[93]⟩) (j + 1) = bt (⟨#[91]⟩ ++ x ++ ⟨#[93]⟩) j := by
  have s1 : (⟨#[91]⟩ ++ x : ByteArray).size = 1 + x.size := by rw [ByteArray.size_append]; rfl
  have s2 : (⟨#[91, 94]⟩ ++ x : ByteArray).size = 2 + x.size := by rw [ByteArray.size_append]; rfl
  rw [bt_append _ _ (j + 1), bt_append _ _ j, s1, s2]
  by_cases h : j < 1 + x.size
  · rw [if_pos h, if_pos (by omega), bt_append _ _ (j + 1), bt_append _ _ j]
    rw [if_neg (show ¬ j + 1 < (⟨#[91, 94]⟩ : ByteArray).size from by show ¬ j + 1 < 2; omega), if_neg (show ¬ j < (⟨#[91]⟩ : ByteArray).size from by show ¬ j < 1; omega)]
    exact congrArg (bt x) (show j + 1 - 2 = j - 1 by omega)
  · rw [if_neg h, if_neg (by omega)]
    congr 1; omega
theorem bt_p1 (x : ByteArray) (h0 : 0 < x.size) : bt (⟨#[91]⟩ ++ x ++ ⟨#[93]⟩) 1 = bt x 0 := by
  rw [bt_append, if_pos (by rw [ByteArray.size_append]; show 1 < 1 + x.size; omega), bt_append, if_neg (by decide)]; rfl
theorem read_p (x : ByteArray) (h0 : 0 < x.size) (h94 : bt x 0 ≠ 94) (ic nl : Bool) : rdI (⟨#[91]⟩ ++ x ++ ⟨#[93]⟩) 0 ic nl = Br.ends ic nl false (itsOf x) := by
  unfold rdI
  rw [Br.whole_cases, if_pos (bt_p0 x)]
  unfold Br.whole itsOf
  rw [size_p, show bt (⟨#[91]⟩ ++ x ++ ⟨#[93]⟩) (0 + 1) = bt x 0 from bt_p1 x h0]
  have : (bt x 0 == 94) = false := by simpa using h94
  simp only [this]
  rfl
theorem read_q (x : ByteArray) (ic nl : Bool) : rdI (⟨#[91, 94]⟩ ++ x ++ ⟨#[93]⟩) 0 ic nl = Br.ends ic nl true (Br.sh 1 0 (itsOf x)) := by
  unfold rdI
  rw [Br.whole_cases, if_pos (bt_q0 x)]
  unfold Br.whole itsOf
  rw [size_q, show bt (⟨#[91, 94]⟩ ++ x ++ ⟨#[93]⟩) (0 + 1) = 94 from bt_q1 x]
  simp only [BEq.rfl, if_true, Nat.zero_add]
  congr 1
  rw [Br.items_fuel (by omega) (by omega)]
  exact Br.items_turned (f := bt (⟨#[91]⟩ ++ x ++ ⟨#[93]⟩)) (n := x.size + 2) (bt_shift x)
theorem turns_ok (x : ByteArray) (h0 : 0 < x.size) (h94 : bt x 0 ≠ 94) (P : Nat → Bool) (j : Nat) (h : itsOf x = .ok P j) (ic nl : Bool) :
    rdI (⟨#[91]⟩ ++ x ++ ⟨#[93]⟩) 0 ic nl = .ok (Br.fin ic nl false P) (j + 1) ∧ rdI (⟨#[91, 94]⟩ ++ x ++ ⟨#[93]⟩) 0 ic nl = .ok (Br.fin ic nl true P) (j + 1 + 1) := by
  rw [read_p x h0 h94, read_q, h]; exact ⟨rfl, rfl⟩
/-- The place of a fault in the turned one. -/
def plq (c : Nat) (pl : Int) : Int := if c = 1 then 0 else pl + 1
theorem turns_err (x : ByteArray) (h0 : 0 < x.size) (h94 : bt x 0 ≠ 94) (c : Nat) (pl : Int) (h : itsOf x = .err c pl) (ic nl : Bool) :
    rdI (⟨#[91]⟩ ++ x ++ ⟨#[93]⟩) 0 ic nl = .err c pl ∧ rdI (⟨#[91, 94]⟩ ++ x ++ ⟨#[93]⟩) 0 ic nl = .err c (plq c pl) ∧ (plq c pl = pl ∨ plq c pl = pl + 1) ∧ 0 ≤ pl ∧ pl ≤ x.size + 10 := by
  have hpl := Br.items_place (Nat.zero_le _) h
  have hpe := Br.items_err h
  rw [read_p x h0 h94, read_q, h]
  refine ⟨rfl, ?_, ?_, hpl.1, by omega⟩
  · unfold plq Br.sh
    by_cases hc : c = 1
    · simp [hc, Br.ends]
    · simp [hc, Br.ends]
  · unfold plq
    by_cases hc : c = 1
    · rw [if_pos hc]; left; rcases hpe with h | h | h | h <;> omega
    · rw [if_neg hc]; right; rfl
theorem turns_in (x : ByteArray) (P : Nat → Bool) (j : Nat) (h : itsOf x = .ok P j) : j ≤ x.size + 2 := by
  unfold itsOf at h
  have ht := bt_txt (⟨#[91]⟩ ++ x ++ ⟨#[93]⟩)
  rw [size_p] at ht
  have := (Br.items_ok ht (by omega) h).2.1
  omega
end Go.Proofs.YtbpecijdmhablaaDoor
/- BracketTurns: whatever the items and the flags, the law returns true, where Read does what chapter 5 promises. -/
namespace Go.Proofs.YtbpecijdmhablaaDoor
open Go.RowKit
theorem meet_sub {Q P : Nat → Bool} (hs : ∀ b, P b = true → Q b = true) (k : Nat) : Oc.mk Q k &&& Oc.mk P k = Oc.mk P k := by
  rw [Br.mk_and]; congr 1; funext b
  cases h : P b with
  | false => simp
  | true => rw [hs b h]; rfl
theorem meet_p {Q P : Nat → Bool} (hs : ∀ b, P b = true → Q b = true) {w : World} {v : Value} (h : Sl2 w v (Oc.mk Q 0) (Oc.mk Q 1) (Oc.mk Q 2) (Oc.mk Q 3) (Oc.mk P 0) (Oc.mk P 1) (Oc.mk P 2) (Oc.mk P 3)) :
    Calls Tryd.prog 12 #[v] w fun e w' => e = .returned (.agg #[.int .u64 (Oc.U (Oc.mk P 0)), .int .u64 (Oc.U (Oc.mk P 1)), .int .u64 (Oc.U (Oc.mk P 2)), .int .u64 (Oc.U (Oc.mk P 3))]) ∧ Below w.heap.size w w' := by
  have h2 := meet2_any h
  rw [meet_sub hs, meet_sub hs, meet_sub hs, meet_sub hs] at h2
  exact h2
theorem fin_not (ic : Bool) (P : Nat → Bool) : Br.fin ic false true P = fun b => !Br.fin ic false false P b := by cases ic <;> rfl
theorem fin_nl (ic : Bool) (P : Nat → Bool) : Br.fin ic true true P = fun b => !Br.fin ic false false P b && !(b == 10) := by cases ic <;> rfl
theorem fin_sub (ic : Bool) (P : Nat → Bool) (b : Nat) (h : P b = true) : Br.fin ic false false P b = true := by
  cases ic with
  | false => exact h
  | true => show Cl.fold P b = true; unfold Cl.fold; rw [h]; rfl
set_option maxRecDepth 100000 in
set_option maxHeartbeats 8000000 in
theorem brturns_ok (D : BrDoes) (A : Nat → Addr) (x : ByteArray) (fl : Int) (w : World) (hE : BrEnv w A) (hT : ErrType w) (hs : x.size ≤ 5000) (hp0 : 0 < x.size) (h94 : bt x 0 ≠ 94) (P : Nat → Bool) (j : Nat) (hI : itsOf x = .ok P j) :
    Calls Tryd.prog 5 #[.string x, .int .i64 fl] w fun e w' => e = .returned (.bool true) ∧ Below w.heap.size w w' := by
  have he := eq4
  have hlt : x.size ≤ 5000 := hs
  have hjm := turns_in x P j hI
  obtain ⟨Q, hQ⟩ : ∃ Q, Q = Br.fin (icB fl) false false P := ⟨_, rfl⟩
  have hsub : ∀ b, P b = true → Q b = true := by rw [hQ]; exact fin_sub (icB fl) P
  have hd1 := fun w hE => D.read A (⟨#[91]⟩ ++ x ++ ⟨#[93]⟩) 0 (bits .and .i64 fl 2) w hE (by rw [size_p]; omega) (by decide) (by decide)
  have hd2 := fun w hE => D.read A (⟨#[91, 94]⟩ ++ x ++ ⟨#[93]⟩) 0 (bits .and .i64 fl 2) w hE (by rw [size_q]; omega) (by decide) (by decide)
  have hd3 := fun w hE => D.read A (⟨#[91, 94]⟩ ++ x ++ ⟨#[93]⟩) 0 (bits .or .i64 fl 4) w hE (by rw [size_q]; omega) (by decide) (by decide)
  have hd4 := fun w hE => D.read A (⟨#[91, 94]⟩ ++ x ++ ⟨#[93]⟩) 0 (bits .andNot .i64 fl 4) w hE (by rw [size_q]; omega) (by decide) (by decide)
  have hd5 := fun w hE => D.read A (⟨#[91]⟩ ++ x ++ ⟨#[93]⟩) 0 0 w hE (by rw [size_p]; omega) (by decide) (by decide)
  have hr := turns_ok x hp0 h94 P j hI
  rw [ic_and2, nl_and2, (hr (icB fl) false).1, ← hQ] at hd1
  rw [ic_and2, nl_and2, (hr (icB fl) false).2, fin_not, ← hQ] at hd2
  rw [ic_or4, nl_or4, (hr (icB fl) true).2, fin_nl, ← hQ] at hd3
  rw [ic_not4, nl_not4, (hr (icB fl) false).2, fin_not, ← hQ] at hd4
  rw [show icB 0 = false by decide, show nlB 0 = false by decide, (hr false false).1, show Br.fin false false false P = P from rfl] at hd5
  have HL := Lib.hid (brlives_any D A w hE hT)
  have HD1 := Lib.hid hd1; have HD2 := Lib.hid hd2; have HD3 := Lib.hid hd3; have HD4 := Lib.hid hd4; have HD5 := Lib.hid hd5
  have HE := Lib.hid hE; have HT := Lib.hid hT
  have g1 : decide (x.size > 5000) = false := by simp; omega
  have g3 : decide ((5000 : Int) < x.size) = false := by simp; omega
  have hl := toList_pos hp0
  have l1 : x.toList.isEmpty = false := by simpa using hl
  have l2 : (x.toList == []) = false := by simpa using hl
  have e94 : ((x[0].toNat : Int) == 94) = false := by rw [bt_at hp0]; simp; omega
  clear hd1 hd2 hd3 hd4 hd5 hl D hE hT h94 hr hI hQ
  go_enter Tryd.func5, Tryd.ntmps5
  go_wp2_with fail
  refine HL.out.mono ?_; rintro e w1 ⟨rfl, hb1⟩
  have HB1 := Lib.hid hb1; have HE1 := Lib.hid (HE.out.below hb1); have HT1 := Lib.hid (HT.out.later hb1)
  clear hb1
  go_wp2_with fail
  refine (HD1.out _ HE1.out).mono ?_
  intro e w2 hx
  obtain ⟨rfl, hb2⟩ := hx.ok rfl
  have hbp := HB1.out.trans (hb2.mono HB1.out.size)
  have HB2 : Hid (Below w.heap.size w (w2.alloc (.cells #[.int .u64 (Oc.U (Oc.mk (Q) 0)), .int .u64 (Oc.U (Oc.mk (Q) 1)), .int .u64 (Oc.U (Oc.mk (Q) 2)), .int .u64 (Oc.U (Oc.mk (Q) 3))] 25))) := Lib.hid (hbp.alloc hbp.size _)
  have hbB : Below w1.heap.size w1 (w2.alloc (.cells #[.int .u64 (Oc.U (Oc.mk (Q) 0)), .int .u64 (Oc.U (Oc.mk (Q) 1)), .int .u64 (Oc.U (Oc.mk (Q) 2)), .int .u64 (Oc.U (Oc.mk (Q) 3))] 25)) := hb2.alloc hb2.size _
  have HE2 := Lib.hid (HE1.out.below hbB); have HT2 := Lib.hid (HT1.out.later hbB)
  have Z2_2 : Hid ((w2.alloc (.cells #[.int .u64 (Oc.U (Oc.mk (Q) 0)), .int .u64 (Oc.U (Oc.mk (Q) 1)), .int .u64 (Oc.U (Oc.mk (Q) 2)), .int .u64 (Oc.U (Oc.mk (Q) 3))] 25)).heap[w2.heap.size]? = some (.cells #[.int .u64 (Oc.U (Oc.mk (Q) 0)), .int .u64 (Oc.U (Oc.mk (Q) 1)), .int .u64 (Oc.U (Oc.mk (Q) 2)), .int .u64 (Oc.U (Oc.mk (Q) 3))] 25)) := Lib.hid (heap_alloc_new w2 _)
  clear hbp hbB hb2
  go_wp2_with fail
  refine (HD2.out _ HE2.out).mono ?_
  intro e w3 hx
  obtain ⟨rfl, hb3⟩ := hx.ok rfl
  have hbp := HB2.out.trans (hb3.mono HB2.out.size)
  have HB3 : Hid (Below w.heap.size w (w3.alloc (.cells #[.int .u64 (Oc.U (Oc.mk (fun b => !Q b) 0)), .int .u64 (Oc.U (Oc.mk (fun b => !Q b) 1)), .int .u64 (Oc.U (Oc.mk (fun b => !Q b) 2)), .int .u64 (Oc.U (Oc.mk (fun b => !Q b) 3))] 25))) := Lib.hid (hbp.alloc hbp.size _)
  have hbB : Below (w2.alloc (.cells #[.int .u64 (Oc.U (Oc.mk (Q) 0)), .int .u64 (Oc.U (Oc.mk (Q) 1)), .int .u64 (Oc.U (Oc.mk (Q) 2)), .int .u64 (Oc.U (Oc.mk (Q) 3))] 25)).heap.size (w2.alloc (.cells #[.int .u64 (Oc.U (Oc.mk (Q) 0)), .int .u64 (Oc.U (Oc.mk (Q) 1)), .int .u64 (Oc.U (Oc.mk (Q) 2)), .int .u64 (Oc.U (Oc.mk (Q) 3))] 25)) (w3.alloc (.cells #[.int .u64 (Oc.U (Oc.mk (fun b => !Q b) 0)), .int .u64 (Oc.U (Oc.mk (fun b => !Q b) 1)), .int .u64 (Oc.U (Oc.mk (fun b => !Q b) 2)), .int .u64 (Oc.U (Oc.mk (fun b => !Q b) 3))] 25)) := hb3.alloc hb3.size _
  have HE3 := Lib.hid (HE2.out.below hbB); have HT3 := Lib.hid (HT2.out.later hbB)
  have Z2_3 := Lib.hid (keep_blk hbB Z2_2.out)
  have Z3_3 : Hid ((w3.alloc (.cells #[.int .u64 (Oc.U (Oc.mk (fun b => !Q b) 0)), .int .u64 (Oc.U (Oc.mk (fun b => !Q b) 1)), .int .u64 (Oc.U (Oc.mk (fun b => !Q b) 2)), .int .u64 (Oc.U (Oc.mk (fun b => !Q b) 3))] 25)).heap[w3.heap.size]? = some (.cells #[.int .u64 (Oc.U (Oc.mk (fun b => !Q b) 0)), .int .u64 (Oc.U (Oc.mk (fun b => !Q b) 1)), .int .u64 (Oc.U (Oc.mk (fun b => !Q b) 2)), .int .u64 (Oc.U (Oc.mk (fun b => !Q b) 3))] 25)) := Lib.hid (heap_alloc_new w3 _)
  clear hbp hbB hb3 Z2_2
  go_wp2_with fail
  refine (HD3.out _ HE3.out).mono ?_
  intro e w4 hx
  obtain ⟨rfl, hb4⟩ := hx.ok rfl
  have hbp := HB3.out.trans (hb4.mono HB3.out.size)
  have HB4 : Hid (Below w.heap.size w (w4.alloc (.cells #[.int .u64 (Oc.U (Oc.mk (fun b => !Q b && !(b == 10)) 0)), .int .u64 (Oc.U (Oc.mk (fun b => !Q b && !(b == 10)) 1)), .int .u64 (Oc.U (Oc.mk (fun b => !Q b && !(b == 10)) 2)), .int .u64 (Oc.U (Oc.mk (fun b => !Q b && !(b == 10)) 3))] 25))) := Lib.hid (hbp.alloc hbp.size _)
  have hbB : Below (w3.alloc (.cells #[.int .u64 (Oc.U (Oc.mk (fun b => !Q b) 0)), .int .u64 (Oc.U (Oc.mk (fun b => !Q b) 1)), .int .u64 (Oc.U (Oc.mk (fun b => !Q b) 2)), .int .u64 (Oc.U (Oc.mk (fun b => !Q b) 3))] 25)).heap.size (w3.alloc (.cells #[.int .u64 (Oc.U (Oc.mk (fun b => !Q b) 0)), .int .u64 (Oc.U (Oc.mk (fun b => !Q b) 1)), .int .u64 (Oc.U (Oc.mk (fun b => !Q b) 2)), .int .u64 (Oc.U (Oc.mk (fun b => !Q b) 3))] 25)) (w4.alloc (.cells #[.int .u64 (Oc.U (Oc.mk (fun b => !Q b && !(b == 10)) 0)), .int .u64 (Oc.U (Oc.mk (fun b => !Q b && !(b == 10)) 1)), .int .u64 (Oc.U (Oc.mk (fun b => !Q b && !(b == 10)) 2)), .int .u64 (Oc.U (Oc.mk (fun b => !Q b && !(b == 10)) 3))] 25)) := hb4.alloc hb4.size _
  have HE4 := Lib.hid (HE3.out.below hbB); have HT4 := Lib.hid (HT3.out.later hbB)
  have Z2_4 := Lib.hid (keep_blk hbB Z2_3.out)
  have Z3_4 := Lib.hid (keep_blk hbB Z3_3.out)
  have Z4_4 : Hid ((w4.alloc (.cells #[.int .u64 (Oc.U (Oc.mk (fun b => !Q b && !(b == 10)) 0)), .int .u64 (Oc.U (Oc.mk (fun b => !Q b && !(b == 10)) 1)), .int .u64 (Oc.U (Oc.mk (fun b => !Q b && !(b == 10)) 2)), .int .u64 (Oc.U (Oc.mk (fun b => !Q b && !(b == 10)) 3))] 25)).heap[w4.heap.size]? = some (.cells #[.int .u64 (Oc.U (Oc.mk (fun b => !Q b && !(b == 10)) 0)), .int .u64 (Oc.U (Oc.mk (fun b => !Q b && !(b == 10)) 1)), .int .u64 (Oc.U (Oc.mk (fun b => !Q b && !(b == 10)) 2)), .int .u64 (Oc.U (Oc.mk (fun b => !Q b && !(b == 10)) 3))] 25)) := Lib.hid (heap_alloc_new w4 _)
  clear hbp hbB hb4 Z2_3 Z3_3
  go_wp2_with fail
  refine (HD4.out _ HE4.out).mono ?_
  intro e w5 hx
  obtain ⟨rfl, hb5⟩ := hx.ok rfl
  have hbp := HB4.out.trans (hb5.mono HB4.out.size)
  have HB5 : Hid (Below w.heap.size w (w5.alloc (.cells #[.int .u64 (Oc.U (Oc.mk (fun b => !Q b) 0)), .int .u64 (Oc.U (Oc.mk (fun b => !Q b) 1)), .int .u64 (Oc.U (Oc.mk (fun b => !Q b) 2)), .int .u64 (Oc.U (Oc.mk (fun b => !Q b) 3))] 25))) := Lib.hid (hbp.alloc hbp.size _)
  have hbB : Below (w4.alloc (.cells #[.int .u64 (Oc.U (Oc.mk (fun b => !Q b && !(b == 10)) 0)), .int .u64 (Oc.U (Oc.mk (fun b => !Q b && !(b == 10)) 1)), .int .u64 (Oc.U (Oc.mk (fun b => !Q b && !(b == 10)) 2)), .int .u64 (Oc.U (Oc.mk (fun b => !Q b && !(b == 10)) 3))] 25)).heap.size (w4.alloc (.cells #[.int .u64 (Oc.U (Oc.mk (fun b => !Q b && !(b == 10)) 0)), .int .u64 (Oc.U (Oc.mk (fun b => !Q b && !(b == 10)) 1)), .int .u64 (Oc.U (Oc.mk (fun b => !Q b && !(b == 10)) 2)), .int .u64 (Oc.U (Oc.mk (fun b => !Q b && !(b == 10)) 3))] 25)) (w5.alloc (.cells #[.int .u64 (Oc.U (Oc.mk (fun b => !Q b) 0)), .int .u64 (Oc.U (Oc.mk (fun b => !Q b) 1)), .int .u64 (Oc.U (Oc.mk (fun b => !Q b) 2)), .int .u64 (Oc.U (Oc.mk (fun b => !Q b) 3))] 25)) := hb5.alloc hb5.size _
  have HE5 := Lib.hid (HE4.out.below hbB); have HT5 := Lib.hid (HT4.out.later hbB)
  have Z2_5 := Lib.hid (keep_blk hbB Z2_4.out)
  have Z3_5 := Lib.hid (keep_blk hbB Z3_4.out)
  have Z4_5 := Lib.hid (keep_blk hbB Z4_4.out)
  have Z5_5 : Hid ((w5.alloc (.cells #[.int .u64 (Oc.U (Oc.mk (fun b => !Q b) 0)), .int .u64 (Oc.U (Oc.mk (fun b => !Q b) 1)), .int .u64 (Oc.U (Oc.mk (fun b => !Q b) 2)), .int .u64 (Oc.U (Oc.mk (fun b => !Q b) 3))] 25)).heap[w5.heap.size]? = some (.cells #[.int .u64 (Oc.U (Oc.mk (fun b => !Q b) 0)), .int .u64 (Oc.U (Oc.mk (fun b => !Q b) 1)), .int .u64 (Oc.U (Oc.mk (fun b => !Q b) 2)), .int .u64 (Oc.U (Oc.mk (fun b => !Q b) 3))] 25)) := Lib.hid (heap_alloc_new w5 _)
  clear hbp hbB hb5 Z2_4 Z3_4 Z4_4
  go_wp2_with (go_at_call 9; refine (num_nil _).mono ?_; rintro e w' ⟨rfl, rfl⟩)
  refine (HD5.out _ HE5.out).mono ?_
  intro e w6 hx
  obtain ⟨rfl, hb6⟩ := hx.ok rfl
  have hbp := HB5.out.trans (hb6.mono HB5.out.size)
  have HB6 : Hid (Below w.heap.size w (w6.alloc (.cells #[.int .u64 (Oc.U (Oc.mk (P) 0)), .int .u64 (Oc.U (Oc.mk (P) 1)), .int .u64 (Oc.U (Oc.mk (P) 2)), .int .u64 (Oc.U (Oc.mk (P) 3))] 25))) := Lib.hid (hbp.alloc hbp.size _)
  have hbB : Below (w5.alloc (.cells #[.int .u64 (Oc.U (Oc.mk (fun b => !Q b) 0)), .int .u64 (Oc.U (Oc.mk (fun b => !Q b) 1)), .int .u64 (Oc.U (Oc.mk (fun b => !Q b) 2)), .int .u64 (Oc.U (Oc.mk (fun b => !Q b) 3))] 25)).heap.size (w5.alloc (.cells #[.int .u64 (Oc.U (Oc.mk (fun b => !Q b) 0)), .int .u64 (Oc.U (Oc.mk (fun b => !Q b) 1)), .int .u64 (Oc.U (Oc.mk (fun b => !Q b) 2)), .int .u64 (Oc.U (Oc.mk (fun b => !Q b) 3))] 25)) (w6.alloc (.cells #[.int .u64 (Oc.U (Oc.mk (P) 0)), .int .u64 (Oc.U (Oc.mk (P) 1)), .int .u64 (Oc.U (Oc.mk (P) 2)), .int .u64 (Oc.U (Oc.mk (P) 3))] 25)) := hb6.alloc hb6.size _
  have Y2 : Hid ((w6.alloc (.cells #[.int .u64 (Oc.U (Oc.mk (P) 0)), .int .u64 (Oc.U (Oc.mk (P) 1)), .int .u64 (Oc.U (Oc.mk (P) 2)), .int .u64 (Oc.U (Oc.mk (P) 3))] 25)).heap[w2.heap.size]? = some (.cells #[.int .u64 (Oc.U (Oc.mk (Q) 0)), .int .u64 (Oc.U (Oc.mk (Q) 1)), .int .u64 (Oc.U (Oc.mk (Q) 2)), .int .u64 (Oc.U (Oc.mk (Q) 3))] 25)) := Lib.hid (keep_blk hbB Z2_5.out)
  have Y3 : Hid ((w6.alloc (.cells #[.int .u64 (Oc.U (Oc.mk (P) 0)), .int .u64 (Oc.U (Oc.mk (P) 1)), .int .u64 (Oc.U (Oc.mk (P) 2)), .int .u64 (Oc.U (Oc.mk (P) 3))] 25)).heap[w3.heap.size]? = some (.cells #[.int .u64 (Oc.U (Oc.mk (fun b => !Q b) 0)), .int .u64 (Oc.U (Oc.mk (fun b => !Q b) 1)), .int .u64 (Oc.U (Oc.mk (fun b => !Q b) 2)), .int .u64 (Oc.U (Oc.mk (fun b => !Q b) 3))] 25)) := Lib.hid (keep_blk hbB Z3_5.out)
  have Y4 : Hid ((w6.alloc (.cells #[.int .u64 (Oc.U (Oc.mk (P) 0)), .int .u64 (Oc.U (Oc.mk (P) 1)), .int .u64 (Oc.U (Oc.mk (P) 2)), .int .u64 (Oc.U (Oc.mk (P) 3))] 25)).heap[w4.heap.size]? = some (.cells #[.int .u64 (Oc.U (Oc.mk (fun b => !Q b && !(b == 10)) 0)), .int .u64 (Oc.U (Oc.mk (fun b => !Q b && !(b == 10)) 1)), .int .u64 (Oc.U (Oc.mk (fun b => !Q b && !(b == 10)) 2)), .int .u64 (Oc.U (Oc.mk (fun b => !Q b && !(b == 10)) 3))] 25)) := Lib.hid (keep_blk hbB Z4_5.out)
  have Y5 : Hid ((w6.alloc (.cells #[.int .u64 (Oc.U (Oc.mk (P) 0)), .int .u64 (Oc.U (Oc.mk (P) 1)), .int .u64 (Oc.U (Oc.mk (P) 2)), .int .u64 (Oc.U (Oc.mk (P) 3))] 25)).heap[w5.heap.size]? = some (.cells #[.int .u64 (Oc.U (Oc.mk (fun b => !Q b) 0)), .int .u64 (Oc.U (Oc.mk (fun b => !Q b) 1)), .int .u64 (Oc.U (Oc.mk (fun b => !Q b) 2)), .int .u64 (Oc.U (Oc.mk (fun b => !Q b) 3))] 25)) := Lib.hid (keep_blk hbB Z5_5.out)
  have Y6 : Hid ((w6.alloc (.cells #[.int .u64 (Oc.U (Oc.mk (P) 0)), .int .u64 (Oc.U (Oc.mk (P) 1)), .int .u64 (Oc.U (Oc.mk (P) 2)), .int .u64 (Oc.U (Oc.mk (P) 3))] 25)).heap[w6.heap.size]? = some (.cells #[.int .u64 (Oc.U (Oc.mk (P) 0)), .int .u64 (Oc.U (Oc.mk (P) 1)), .int .u64 (Oc.U (Oc.mk (P) 2)), .int .u64 (Oc.U (Oc.mk (P) 3))] 25)) := Lib.hid (heap_alloc_new w6 _)
  clear hbp hbB hb6
  have wj1 : IntKind.i64.wrap ((j : Int) + 1 + 1) = (j : Int) + 1 + 1 := IntWalk.i64_in _ (by omega)
  go_wp2_with fail
  generalize World.alloc w6 _ = W at *
  refine Ri.wp_region_frame (by kernel_rfl) (by kernel_rfl) (by kernel_rfl) (by kernel_rfl)
    (fun L v w' => Below W.heap.size W w' ∧ (L 0 = true → v 0 = .nilIface) ∧ (L 1 = true → v 1 = .bool false) ∧ (L 2 = true → v 2 = .bool false) ∧ (L 3 = true → v 3 = .int .i64 ((j : Int) + 1 + 1)) ∧ (L 4 = true → v 4 = .int .i64 ((j : Int) + 1)) ∧ (L 5 = true → v 5 = .int .i64 ((j : Int) + 1 + 1)) ∧ (L 6 = true → v 6 = .bool false) ∧ (L 7 = true → v 7 = .bool false) ∧ (L 8 = true → v 8 = .bool false) ∧ (L 9 = true → v 9 = (.agg #[.int .u64 (Oc.U (Oc.mk (fun b => !Q b) 0)), .int .u64 (Oc.U (Oc.mk (fun b => !Q b) 1)), .int .u64 (Oc.U (Oc.mk (fun b => !Q b) 2)), .int .u64 (Oc.U (Oc.mk (fun b => !Q b) 3))])) ∧ (L 10 = true → v 10 = (.agg #[.int .u64 (Oc.U (Oc.mk (Q) 0)), .int .u64 (Oc.U (Oc.mk (Q) 1)), .int .u64 (Oc.U (Oc.mk (Q) 2)), .int .u64 (Oc.U (Oc.mk (Q) 3))])) ∧ (L 11 = true → v 11 = (.agg #[.int .u64 (Oc.U (Oc.mk (fun b => !Q b) 0)), .int .u64 (Oc.U (Oc.mk (fun b => !Q b) 1)), .int .u64 (Oc.U (Oc.mk (fun b => !Q b) 2)), .int .u64 (Oc.U (Oc.mk (fun b => !Q b) 3))])) ∧ (L 12 = true → v 12 = .bool false) ∧ (L 13 = true → v 13 = .bool false) ∧ (L 14 = true → v 14 = .bool false) ∧ (L 15 = true → v 15 = (.agg #[.int .u64 (Oc.U (Oc.mk (Q) 0)), .int .u64 (Oc.U (Oc.mk (Q) 1)), .int .u64 (Oc.U (Oc.mk (Q) 2)), .int .u64 (Oc.U (Oc.mk (Q) 3))])) ∧ (L 16 = true → v 16 = (.agg #[.int .u64 (Oc.U (Oc.mk (P) 0)), .int .u64 (Oc.U (Oc.mk (P) 1)), .int .u64 (Oc.U (Oc.mk (P) 2)), .int .u64 (Oc.U (Oc.mk (P) 3))])) ∧ (L 17 = true → Sl2 w' (v 17) (Oc.mk (Q) 0) (Oc.mk (Q) 1) (Oc.mk (Q) 2) (Oc.mk (Q) 3) (Oc.mk (P) 0) (Oc.mk (P) 1) (Oc.mk (P) 2) (Oc.mk (P) 3)) ∧ (L 18 = true → v 18 = (.agg #[.int .u64 (Oc.U (Oc.mk (P) 0)), .int .u64 (Oc.U (Oc.mk (P) 1)), .int .u64 (Oc.U (Oc.mk (P) 2)), .int .u64 (Oc.U (Oc.mk (P) 3))])) ∧ (L 19 = true → v 19 = (.agg #[.int .u64 (Oc.U (Oc.mk (P) 0)), .int .u64 (Oc.U (Oc.mk (P) 1)), .int .u64 (Oc.U (Oc.mk (P) 2)), .int .u64 (Oc.U (Oc.mk (P) 3))])) ∧ (L 20 = true → v 20 = .bool false) ∧ (L 21 = true → v 21 = .bool false))
    ?_ ?_ ?_
  · exact ⟨(Below.refl _ _).drew, by simp, by simp, by simp, by simp, by simp, by simp, by simp, by simp, by simp, by simp, by simp, by simp, by simp, by simp, by simp, by simp, by simp, by simp, by simp, by simp, by simp, by simp⟩
  · intro i hi9 L v w9 xa hI hL hd hv ho
    have hi' : i = 0 ∨ i = 1 ∨ i = 2 ∨ i = 3 ∨ i = 4 ∨ i = 5 ∨ i = 6 ∨ i = 7 ∨ i = 8 ∨ i = 9 ∨ i = 10 ∨ i = 11 ∨ i = 12 ∨ i = 13 ∨ i = 14 ∨ i = 15 ∨ i = 16 ∨ i = 17 ∨ i = 18 ∨ i = 19 ∨ i = 20 ∨ i = 21 := by simp at hi9; omega
    obtain ⟨hb, q0, q1, q2, q3, q4, q5, q6, q7, q8, q9, q10, q11, q12, q13, q14, q15, q16, q17, q18, q19, q20, q21⟩ := hI
    rcases hi' with rfl | rfl | rfl | rfl | rfl | rfl | rfl | rfl | rfl | rfl | rfl | rfl | rfl | rfl | rfl | rfl | rfl | rfl | rfl | rfl | rfl | rfl
    · have e21 : xa.tmps.getD 21 undef = .nilIface := ho 21 (by kernel_rfl)
      refine Ri.step_plain rfl rfl (fun K' hK => ?_)
      go_simp
      exact hK _ _ ⟨_, _, rfl, rfl, hb, fun _ => rfl, q1, q2, q3, q4, q5, q6, q7, q8, q9, q10, q11, q12, q13, q14, q15, q16, q17, q18, q19, q20, q21⟩
    · have l0 : L 0 = true := by have := hd _ rfl; simp [Region.binds] at this; simp [this]
      have f0 := (hv 0 114 rfl l0).trans (q0 l0)
      refine Ri.step_plain rfl rfl (fun K' hK => ?_)
      go_simp
      exact hK _ _ ⟨_, _, rfl, rfl, hb, q0, fun _ => rfl, q2, q3, q4, q5, q6, q7, q8, q9, q10, q11, q12, q13, q14, q15, q16, q17, q18, q19, q20, q21⟩
    · have l0 : L 1 = true := by have := hd _ rfl; simp [Region.binds] at this; simp [this]
      have f1 := (hv 1 115 rfl l0).trans (q1 l0)
      refine Ri.step_plain rfl rfl (fun K' hK => ?_)
      go_simp
      exact hK _ _ ⟨_, _, rfl, rfl, hb, q0, q1, fun _ => rfl, q3, q4, q5, q6, q7, q8, q9, q10, q11, q12, q13, q14, q15, q16, q17, q18, q19, q20, q21⟩
    · have l0 : L 2 = true := by have := hd _ rfl; simp [Region.binds] at this; simp [this]
      have f2 := (hv 2 116 rfl l0).trans (q2 l0)
      have e11 : xa.tmps.getD 11 undef = .int .i64 ((j : Int) + 1 + 1) := ho 11 (by kernel_rfl)
      refine Ri.step_wanted (b := false) rfl rfl rfl f2 (fun K' hK => ?_)
      go_simp
      exact hK _ _ ⟨_, _, rfl, rfl, hb, q0, q1, q2, fun _ => rfl, q4, q5, q6, q7, q8, q9, q10, q11, q12, q13, q14, q15, q16, q17, q18, q19, q20, q21⟩
    · have l0 : L 2 = true := by have := hd _ rfl; simp [Region.binds] at this; simp [this]
      have f2 := (hv 2 116 rfl l0).trans (q2 l0)
      have e8 : xa.tmps.getD 8 undef = .int .i64 ((j : Int) + 1) := ho 8 (by kernel_rfl)
      refine Ri.step_wanted (b := false) rfl rfl rfl f2 (fun K' hK => ?_)
      go_simp
      exact hK _ _ ⟨_, _, rfl, rfl, hb, q0, q1, q2, q3, fun _ => rfl, q5, q6, q7, q8, q9, q10, q11, q12, q13, q14, q15, q16, q17, q18, q19, q20, q21⟩
    · have l0 : L 2 = true ∧ L 4 = true := by have := hd _ rfl; simp [Region.binds] at this; simp [this]
      have f2 := (hv 2 116 rfl l0.1).trans (q2 l0.1)
      have f4 := (hv 4 118 rfl l0.2).trans (q4 l0.2)
      refine Ri.step_wanted (b := false) rfl rfl rfl f2 (fun K' hK => ?_)
      go_simp
      exact hK _ _ ⟨_, _, rfl, rfl, hb, q0, q1, q2, q3, q4, fun _ => rfl, q6, q7, q8, q9, q10, q11, q12, q13, q14, q15, q16, q17, q18, q19, q20, q21⟩
    · have l0 : L 2 = true ∧ L 3 = true ∧ L 5 = true := by have := hd _ rfl; simp [Region.binds] at this; simp [this]
      have f2 := (hv 2 116 rfl l0.1).trans (q2 l0.1)
      have f3 := (hv 3 117 rfl l0.2.1).trans (q3 l0.2.1)
      have f5 := (hv 5 119 rfl l0.2.2).trans (q5 l0.2.2)
      refine Ri.step_wanted (b := false) rfl rfl rfl f2 (fun K' hK => ?_)
      go_simp
      exact hK _ _ ⟨_, _, rfl, rfl, hb, q0, q1, q2, q3, q4, q5, fun _ => rfl, q7, q8, q9, q10, q11, q12, q13, q14, q15, q16, q17, q18, q19, q20, q21⟩
    · have l0 : L 2 = true ∧ L 6 = true := by have := hd _ rfl; simp [Region.binds] at this; simp [this]
      have f2 := (hv 2 116 rfl l0.1).trans (q2 l0.1)
      have f6 := (hv 6 120 rfl l0.2).trans (q6 l0.2)
      refine Ri.step_plain rfl rfl (fun K' hK => ?_)
      go_simp
      exact hK _ _ ⟨_, _, rfl, rfl, hb, q0, q1, q2, q3, q4, q5, q6, fun _ => rfl, q8, q9, q10, q11, q12, q13, q14, q15, q16, q17, q18, q19, q20, q21⟩
    · have l0 : L 7 = true := by have := hd _ rfl; simp [Region.binds] at this; simp [this]
      have f7 := (hv 7 121 rfl l0).trans (q7 l0)
      refine Ri.step_plain rfl rfl (fun K' hK => ?_)
      go_simp
      exact hK _ _ ⟨_, _, rfl, rfl, hb, q0, q1, q2, q3, q4, q5, q6, q7, fun _ => rfl, q9, q10, q11, q12, q13, q14, q15, q16, q17, q18, q19, q20, q21⟩
    · have l0 : L 8 = true := by have := hd _ rfl; simp [Region.binds] at this; simp [this]
      have f8 := (hv 8 122 rfl l0).trans (q8 l0)
      have e10 : xa.tmps.getD 10 undef = .pointer (some ⟨w3.heap.size, 0, none⟩) := ho 10 (by kernel_rfl)
      refine Ri.step_wanted (b := false) rfl rfl rfl f8 (fun K' hK => ?_)
      refine wp_load_row _ _ rfl _ e10 _ _ _ _ (keep_blk hb Y3.out) Tryd.underlying25 rfl (by kernel_rfl) ?_
      exact hK _ _ ⟨_, _, rfl, rfl, hb, q0, q1, q2, q3, q4, q5, q6, q7, q8, fun _ => rfl, q10, q11, q12, q13, q14, q15, q16, q17, q18, q19, q20, q21⟩
    · have l0 : L 8 = true := by have := hd _ rfl; simp [Region.binds] at this; simp [this]
      have f8 := (hv 8 122 rfl l0).trans (q8 l0)
      have e7 : xa.tmps.getD 7 undef = .pointer (some ⟨w2.heap.size, 0, none⟩) := ho 7 (by kernel_rfl)
      refine Ri.step_wanted (b := false) rfl rfl rfl f8 (fun K' hK => ?_)
      refine wp_load_row _ _ rfl _ e7 _ _ _ _ (keep_blk hb Y2.out) Tryd.underlying25 rfl (by kernel_rfl) ?_
      exact hK _ _ ⟨_, _, rfl, rfl, hb, q0, q1, q2, q3, q4, q5, q6, q7, q8, q9, fun _ => rfl, q11, q12, q13, q14, q15, q16, q17, q18, q19, q20, q21⟩
    · have l0 : L 8 = true ∧ L 10 = true := by have := hd _ rfl; simp [Region.binds] at this; simp [this]
      have f8 := (hv 8 122 rfl l0.1).trans (q8 l0.1)
      have f10 := (hv 10 124 rfl l0.2).trans (q10 l0.2)
      refine Ri.step_wanted (b := false) rfl rfl rfl f8 (fun K' hK => ?_)
      go_simp
      refine (not_p Q _).mono ?_
      rintro e w8 ⟨rfl, hb8⟩
      exact hK _ _ ⟨_, _, rfl, rfl, hb.trans (hb8.mono hb.size), q0, q1, q2, q3, q4, q5, q6, q7, q8, q9, q10, fun _ => rfl, q12, q13, q14, q15, q16, fun l => (q17 l).below hb8, q18, q19, q20, q21⟩
    · have l0 : L 8 = true ∧ L 9 = true ∧ L 11 = true := by have := hd _ rfl; simp [Region.binds] at this; simp [this]
      have f8 := (hv 8 122 rfl l0.1).trans (q8 l0.1)
      have f9 := (hv 9 123 rfl l0.2.1).trans (q9 l0.2.1)
      have f11 := (hv 11 125 rfl l0.2.2).trans (q11 l0.2.2)
      refine Ri.step_wanted (b := false) rfl rfl rfl f8 (fun K' hK => ?_)
      go_simp
      exact hK _ _ ⟨_, _, rfl, rfl, hb, q0, q1, q2, q3, q4, q5, q6, q7, q8, q9, q10, q11, fun _ => rfl, q13, q14, q15, q16, q17, q18, q19, q20, q21⟩
    · have l0 : L 8 = true ∧ L 12 = true := by have := hd _ rfl; simp [Region.binds] at this; simp [this]
      have f8 := (hv 8 122 rfl l0.1).trans (q8 l0.1)
      have f12 := (hv 12 126 rfl l0.2).trans (q12 l0.2)
      refine Ri.step_plain rfl rfl (fun K' hK => ?_)
      go_simp
      exact hK _ _ ⟨_, _, rfl, rfl, hb, q0, q1, q2, q3, q4, q5, q6, q7, q8, q9, q10, q11, q12, fun _ => rfl, q14, q15, q16, q17, q18, q19, q20, q21⟩
    · have l0 : L 13 = true := by have := hd _ rfl; simp [Region.binds] at this; simp [this]
      have f13 := (hv 13 127 rfl l0).trans (q13 l0)
      refine Ri.step_plain rfl rfl (fun K' hK => ?_)
      go_simp
      exact hK _ _ ⟨_, _, rfl, rfl, hb, q0, q1, q2, q3, q4, q5, q6, q7, q8, q9, q10, q11, q12, q13, fun _ => rfl, q15, q16, q17, q18, q19, q20, q21⟩
    · have l0 : L 14 = true := by have := hd _ rfl; simp [Region.binds] at this; simp [this]
      have f14 := (hv 14 128 rfl l0).trans (q14 l0)
      have e7 : xa.tmps.getD 7 undef = .pointer (some ⟨w2.heap.size, 0, none⟩) := ho 7 (by kernel_rfl)
      refine Ri.step_wanted (b := false) rfl rfl rfl f14 (fun K' hK => ?_)
      refine wp_load_row _ _ rfl _ e7 _ _ _ _ (keep_blk hb Y2.out) Tryd.underlying25 rfl (by kernel_rfl) ?_
      exact hK _ _ ⟨_, _, rfl, rfl, hb, q0, q1, q2, q3, q4, q5, q6, q7, q8, q9, q10, q11, q12, q13, q14, fun _ => rfl, q16, q17, q18, q19, q20, q21⟩
    · have l0 : L 14 = true := by have := hd _ rfl; simp [Region.binds] at this; simp [this]
      have f14 := (hv 14 128 rfl l0).trans (q14 l0)
      have e19 : xa.tmps.getD 19 undef = .pointer (some ⟨w6.heap.size, 0, none⟩) := ho 19 (by kernel_rfl)
      refine Ri.step_wanted (b := false) rfl rfl rfl f14 (fun K' hK => ?_)
      refine wp_load_row _ _ rfl _ e19 _ _ _ _ (keep_blk hb Y6.out) Tryd.underlying25 rfl (by kernel_rfl) ?_
      exact hK _ _ ⟨_, _, rfl, rfl, hb, q0, q1, q2, q3, q4, q5, q6, q7, q8, q9, q10, q11, q12, q13, q14, q15, fun _ => rfl, q17, q18, q19, q20, q21⟩
    · have l0 : L 14 = true ∧ L 15 = true ∧ L 16 = true := by have := hd _ rfl; simp [Region.binds] at this; simp [this]
      have f14 := (hv 14 128 rfl l0.1).trans (q14 l0.1)
      have f15 := (hv 15 129 rfl l0.2.1).trans (q15 l0.2.1)
      have f16 := (hv 16 130 rfl l0.2.2).trans (q16 l0.2.2)
      refine Ri.step_wanted (b := false) rfl rfl rfl f14 (fun K' hK => ?_)
      refine wp_pair _ _ rfl f15 f16 ?_
      exact hK _ _ ⟨_, _, rfl, rfl, hb.alloc hb.size _, q0, q1, q2, q3, q4, q5, q6, q7, q8, q9, q10, q11, q12, q13, q14, q15, q16, fun _ => ⟨_, rfl, heap_alloc_new _ _⟩, q18, q19, q20, q21⟩
    · have l0 : L 14 = true ∧ L 17 = true := by have := hd _ rfl; simp [Region.binds] at this; simp [this]
      have f14 := (hv 14 128 rfl l0.1).trans (q14 l0.1)
      have f17 := hv 17 131 rfl l0.2
      refine Ri.step_wanted (b := false) rfl rfl rfl f14 (fun K' hK => ?_)
      go_simp
      refine (meet_p hsub (q17 l0.2)).mono ?_
      rintro e w8 ⟨rfl, hb8⟩
      exact hK _ _ ⟨_, _, rfl, rfl, hb.trans (hb8.mono hb.size), q0, q1, q2, q3, q4, q5, q6, q7, q8, q9, q10, q11, q12, q13, q14, q15, q16, fun l => (q17 l).below hb8, fun _ => rfl, q19, q20, q21⟩
    · have l0 : L 14 = true := by have := hd _ rfl; simp [Region.binds] at this; simp [this]
      have f14 := (hv 14 128 rfl l0).trans (q14 l0)
      have e19 : xa.tmps.getD 19 undef = .pointer (some ⟨w6.heap.size, 0, none⟩) := ho 19 (by kernel_rfl)
      refine Ri.step_wanted (b := false) rfl rfl rfl f14 (fun K' hK => ?_)
      refine wp_load_row _ _ rfl _ e19 _ _ _ _ (keep_blk hb Y6.out) Tryd.underlying25 rfl (by kernel_rfl) ?_
      exact hK _ _ ⟨_, _, rfl, rfl, hb, q0, q1, q2, q3, q4, q5, q6, q7, q8, q9, q10, q11, q12, q13, q14, q15, q16, q17, q18, fun _ => rfl, q20, q21⟩
    · have l0 : L 14 = true ∧ L 18 = true ∧ L 19 = true := by have := hd _ rfl; simp [Region.binds] at this; simp [this]
      have f14 := (hv 14 128 rfl l0.1).trans (q14 l0.1)
      have f18 := (hv 18 132 rfl l0.2.1).trans (q18 l0.2.1)
      have f19 := (hv 19 133 rfl l0.2.2).trans (q19 l0.2.2)
      refine Ri.step_wanted (b := false) rfl rfl rfl f14 (fun K' hK => ?_)
      go_simp
      exact hK _ _ ⟨_, _, rfl, rfl, hb, q0, q1, q2, q3, q4, q5, q6, q7, q8, q9, q10, q11, q12, q13, q14, q15, q16, q17, q18, q19, fun _ => rfl, q21⟩
    · have l0 : L 14 = true ∧ L 20 = true := by have := hd _ rfl; simp [Region.binds] at this; simp [this]
      have f14 := (hv 14 128 rfl l0.1).trans (q14 l0.1)
      have f20 := (hv 20 134 rfl l0.2).trans (q20 l0.2)
      refine Ri.step_plain rfl rfl (fun K' hK => ?_)
      go_simp
      exact hK _ _ ⟨_, _, rfl, rfl, hb, q0, q1, q2, q3, q4, q5, q6, q7, q8, q9, q10, q11, q12, q13, q14, q15, q16, q17, q18, q19, q20, fun _ => rfl⟩
  · rintro v w9 ⟨hb, -, -, -, -, -, -, -, -, -, -, -, -, -, -, -, -, -, -, -, -, -, q21⟩
    have q21' : v 21 = .bool false := q21 rfl
    simp only [Ri.frame, List.zipIdx, List.foldl_cons, List.foldl_nil, if_true, List.setIfInBounds_toArray, List.set_cons_zero, List.set_cons_succ, Nat.reduceAdd, q21']
    clear q21 q21'
    generalize v 0 = y0; generalize v 1 = y1; generalize v 2 = y2; generalize v 3 = y3; generalize v 4 = y4; generalize v 5 = y5; generalize v 6 = y6; generalize v 7 = y7; generalize v 8 = y8; generalize v 9 = y9; generalize v 10 = y10; generalize v 11 = y11; generalize v 12 = y12; generalize v 13 = y13; generalize v 14 = y14; generalize v 15 = y15; generalize v 16 = y16; generalize v 17 = y17; generalize v 18 = y18; generalize v 19 = y19; generalize v 20 = y20
    have X3 := Lib.hid (keep_blk hb Y3.out); have X4 := Lib.hid (keep_blk hb Y4.out); have X5 := Lib.hid (keep_blk hb Y5.out); have HB7 := Lib.hid (HB6.out.trans (hb.mono HB6.out.size))
    clear hb
    go_wp2_with fail
    refine Ri.wp_region_frame (by kernel_rfl) (by kernel_rfl) (by kernel_rfl) (by kernel_rfl)
      (fun L v w' => Below w9.heap.size w9 w' ∧ (L 0 = true → v 0 = (.agg #[.int .u64 (Oc.U (Oc.mk (fun b => !Q b) 0)), .int .u64 (Oc.U (Oc.mk (fun b => !Q b) 1)), .int .u64 (Oc.U (Oc.mk (fun b => !Q b) 2)), .int .u64 (Oc.U (Oc.mk (fun b => !Q b) 3))])) ∧ (L 1 = true → v 1 = (.agg #[.int .u64 (Oc.U (Oc.mk (fun b => !Q b) 0)), .int .u64 (Oc.U (Oc.mk (fun b => !Q b) 1)), .int .u64 (Oc.U (Oc.mk (fun b => !Q b) 2)), .int .u64 (Oc.U (Oc.mk (fun b => !Q b) 3))])) ∧ (L 2 = true → v 2 = .bool true) ∧ (L 3 = true → v 3 = .bool true) ∧ (L 4 = true → v 4 = (.agg #[.int .u64 (Oc.U (Oc.mk (fun b => !Q b && !(b == 10)) 0)), .int .u64 (Oc.U (Oc.mk (fun b => !Q b && !(b == 10)) 1)), .int .u64 (Oc.U (Oc.mk (fun b => !Q b && !(b == 10)) 2)), .int .u64 (Oc.U (Oc.mk (fun b => !Q b && !(b == 10)) 3))])) ∧ (L 5 = true → v 5 = (.agg #[.int .u64 (Oc.U (Oc.mk (fun b => !Q b) 0)), .int .u64 (Oc.U (Oc.mk (fun b => !Q b) 1)), .int .u64 (Oc.U (Oc.mk (fun b => !Q b) 2)), .int .u64 (Oc.U (Oc.mk (fun b => !Q b) 3))])) ∧ (L 6 = true → One w' (v 6) 10) ∧ (L 7 = true → v 7 = (.agg #[.int .u64 (Oc.U (Oc.mk (fun b => b == 10) 0)), .int .u64 (Oc.U (Oc.mk (fun b => b == 10) 1)), .int .u64 (Oc.U (Oc.mk (fun b => b == 10) 2)), .int .u64 (Oc.U (Oc.mk (fun b => b == 10) 3))])) ∧ (L 8 = true → v 8 = (.agg #[.int .u64 (Oc.U (Oc.mk (fun b => !Q b && !(b == 10)) 0)), .int .u64 (Oc.U (Oc.mk (fun b => !Q b && !(b == 10)) 1)), .int .u64 (Oc.U (Oc.mk (fun b => !Q b && !(b == 10)) 2)), .int .u64 (Oc.U (Oc.mk (fun b => !Q b && !(b == 10)) 3))])) ∧ (L 9 = true → v 9 = .bool true) ∧ (L 10 = true → v 10 = .bool true) ∧ (L 11 = true → v 11 = .bool true))
      ?_ ?_ ?_
    · exact ⟨(Below.refl _ _).drew, by simp, by simp, by simp, by simp, by simp, by simp, by simp, by simp, by simp, by simp, by simp, by simp⟩
    · intro i hi9 L v w10 xa hI hL hd hv ho
      have hi' : i = 0 ∨ i = 1 ∨ i = 2 ∨ i = 3 ∨ i = 4 ∨ i = 5 ∨ i = 6 ∨ i = 7 ∨ i = 8 ∨ i = 9 ∨ i = 10 ∨ i = 11 := by simp at hi9; omega
      obtain ⟨hb, q0, q1, q2, q3, q4, q5, q6, q7, q8, q9, q10, q11⟩ := hI
      rcases hi' with rfl | rfl | rfl | rfl | rfl | rfl | rfl | rfl | rfl | rfl | rfl | rfl
      · have e16 : xa.tmps.getD 16 undef = .pointer (some ⟨w5.heap.size, 0, none⟩) := ho 16 (by kernel_rfl)
        refine Ri.step_plain rfl rfl (fun K' hK => ?_)
        refine wp_load_row _ _ rfl _ e16 _ _ _ _ (keep_blk hb X5.out) Tryd.underlying25 rfl (by kernel_rfl) ?_
        exact hK _ _ ⟨_, _, rfl, rfl, hb, fun _ => rfl, q1, q2, q3, q4, q5, q6, q7, q8, q9, q10, q11⟩
      · have e10 : xa.tmps.getD 10 undef = .pointer (some ⟨w3.heap.size, 0, none⟩) := ho 10 (by kernel_rfl)
        refine Ri.step_plain rfl rfl (fun K' hK => ?_)
        refine wp_load_row _ _ rfl _ e10 _ _ _ _ (keep_blk hb X3.out) Tryd.underlying25 rfl (by kernel_rfl) ?_
        exact hK _ _ ⟨_, _, rfl, rfl, hb, q0, fun _ => rfl, q2, q3, q4, q5, q6, q7, q8, q9, q10, q11⟩
      · have l0 : L 0 = true ∧ L 1 = true := by have := hd _ rfl; simp [Region.binds] at this; simp [this]
        have f0 := (hv 0 136 rfl l0.1).trans (q0 l0.1)
        have f1 := (hv 1 137 rfl l0.2).trans (q1 l0.2)
        refine Ri.step_plain rfl rfl (fun K' hK => ?_)
        go_simp
        exact hK _ _ ⟨_, _, rfl, rfl, hb, q0, q1, fun _ => rfl, q3, q4, q5, q6, q7, q8, q9, q10, q11⟩
      · have l0 : L 2 = true := by have := hd _ rfl; simp [Region.binds] at this; simp [this]
        have f2 := (hv 2 138 rfl l0).trans (q2 l0)
        refine Ri.step_plain rfl rfl (fun K' hK => ?_)
        go_simp
        exact hK _ _ ⟨_, _, rfl, rfl, hb, q0, q1, q2, fun _ => rfl, q4, q5, q6, q7, q8, q9, q10, q11⟩
      · have l0 : L 3 = true := by have := hd _ rfl; simp [Region.binds] at this; simp [this]
        have f3 := (hv 3 139 rfl l0).trans (q3 l0)
        have e13 : xa.tmps.getD 13 undef = .pointer (some ⟨w4.heap.size, 0, none⟩) := ho 13 (by kernel_rfl)
        refine Ri.step_wanted (b := true) rfl rfl rfl f3 (fun K' hK => ?_)
        refine wp_load_row _ _ rfl _ e13 _ _ _ _ (keep_blk hb X4.out) Tryd.underlying25 rfl (by kernel_rfl) ?_
        exact hK _ _ ⟨_, _, rfl, rfl, hb, q0, q1, q2, q3, fun _ => rfl, q5, q6, q7, q8, q9, q10, q11⟩
      · have l0 : L 3 = true := by have := hd _ rfl; simp [Region.binds] at this; simp [this]
        have f3 := (hv 3 139 rfl l0).trans (q3 l0)
        have e10 : xa.tmps.getD 10 undef = .pointer (some ⟨w3.heap.size, 0, none⟩) := ho 10 (by kernel_rfl)
        refine Ri.step_wanted (b := true) rfl rfl rfl f3 (fun K' hK => ?_)
        refine wp_load_row _ _ rfl _ e10 _ _ _ _ (keep_blk hb X3.out) Tryd.underlying25 rfl (by kernel_rfl) ?_
        exact hK _ _ ⟨_, _, rfl, rfl, hb, q0, q1, q2, q3, q4, fun _ => rfl, q6, q7, q8, q9, q10, q11⟩
      · have l0 : L 3 = true := by have := hd _ rfl; simp [Region.binds] at this; simp [this]
        have f3 := (hv 3 139 rfl l0).trans (q3 l0)
        refine Ri.step_wanted (b := true) rfl rfl rfl f3 (fun K' hK => ?_)
        refine wp_bytes1 _ rfl ?_
        exact hK _ _ ⟨_, _, rfl, rfl, hb.alloc hb.size _, q0, q1, q2, q3, q4, q5, fun _ => ⟨_, rfl, heap_alloc_new _ _⟩, q7, q8, q9, q10, q11⟩
      · have l0 : L 3 = true ∧ L 6 = true := by have := hd _ rfl; simp [Region.binds] at this; simp [this]
        have f3 := (hv 3 139 rfl l0.1).trans (q3 l0.1)
        have f6 := hv 6 142 rfl l0.2
        refine Ri.step_wanted (b := true) rfl rfl rfl f3 (fun K' hK => ?_)
        go_simp
        refine (one_any (by omega) (q6 l0.2)).mono ?_
        rintro e w8 ⟨rfl, hb8⟩
        exact hK _ _ ⟨_, _, rfl, rfl, hb.trans (hb8.mono hb.size), q0, q1, q2, q3, q4, q5, fun l => (q6 l).below hb8, fun _ => rfl, q8, q9, q10, q11⟩
      · have l0 : L 3 = true ∧ L 5 = true ∧ L 7 = true := by have := hd _ rfl; simp [Region.binds] at this; simp [this]
        have f3 := (hv 3 139 rfl l0.1).trans (q3 l0.1)
        have f5 := (hv 5 141 rfl l0.2.1).trans (q5 l0.2.1)
        have f7 := (hv 7 143 rfl l0.2.2).trans (q7 l0.2.2)
        refine Ri.step_wanted (b := true) rfl rfl rfl f3 (fun K' hK => ?_)
        go_simp
        refine (less_p (fun b => !Q b) (fun b => b == 10) _).mono ?_
        rintro e w8 ⟨rfl, hb8⟩
        exact hK _ _ ⟨_, _, rfl, rfl, hb.trans (hb8.mono hb.size), q0, q1, q2, q3, q4, q5, fun l => (q6 l).below hb8, q7, fun _ => rfl, q9, q10, q11⟩
      · have l0 : L 3 = true ∧ L 4 = true ∧ L 8 = true := by have := hd _ rfl; simp [Region.binds] at this; simp [this]
        have f3 := (hv 3 139 rfl l0.1).trans (q3 l0.1)
        have f4 := (hv 4 140 rfl l0.2.1).trans (q4 l0.2.1)
        have f8 := (hv 8 144 rfl l0.2.2).trans (q8 l0.2.2)
        refine Ri.step_wanted (b := true) rfl rfl rfl f3 (fun K' hK => ?_)
        go_simp
        exact hK _ _ ⟨_, _, rfl, rfl, hb, q0, q1, q2, q3, q4, q5, q6, q7, q8, fun _ => rfl, q10, q11⟩
      · have l0 : L 3 = true ∧ L 9 = true := by have := hd _ rfl; simp [Region.binds] at this; simp [this]
        have f3 := (hv 3 139 rfl l0.1).trans (q3 l0.1)
        have f9 := (hv 9 145 rfl l0.2).trans (q9 l0.2)
        refine Ri.step_plain rfl rfl (fun K' hK => ?_)
        go_simp
        exact hK _ _ ⟨_, _, rfl, rfl, hb, q0, q1, q2, q3, q4, q5, q6, q7, q8, q9, fun _ => rfl, q11⟩
      · have l0 : L 10 = true := by have := hd _ rfl; simp [Region.binds] at this; simp [this]
        have f10 := (hv 10 146 rfl l0).trans (q10 l0)
        refine Ri.step_plain rfl rfl (fun K' hK => ?_)
        go_simp
        exact hK _ _ ⟨_, _, rfl, rfl, hb, q0, q1, q2, q3, q4, q5, q6, q7, q8, q9, q10, fun _ => rfl⟩
    · rintro v w10 ⟨hb, -, -, -, -, -, -, -, -, -, -, -, q11⟩
      have q11' : v 11 = .bool true := q11 rfl
      simp only [Ri.frame, List.zipIdx, List.foldl_cons, List.foldl_nil, if_true, List.setIfInBounds_toArray, List.set_cons_zero, List.set_cons_succ, Nat.reduceAdd, q11']
      clear q11 q11'
      generalize v 0 = y0; generalize v 1 = y1; generalize v 2 = y2; generalize v 3 = y3; generalize v 4 = y4; generalize v 5 = y5; generalize v 6 = y6; generalize v 7 = y7; generalize v 8 = y8; generalize v 9 = y9; generalize v 10 = y10
      have HB8 := Lib.hid (HB7.out.trans (hb.mono HB7.out.size))
      clear hb
      go_wp2
      go_ret
      exact ⟨rfl, HB8.out⟩
set_option maxRecDepth 100000 in
set_option maxHeartbeats 8000000 in
theorem brturns_err (D : BrDoes) (A : Nat → Addr) (x : ByteArray) (fl : Int) (w : World) (hE : BrEnv w A) (hT : ErrType w) (hs : x.size ≤ 5000) (hp0 : 0 < x.size) (h94 : bt x 0 ≠ 94) (c : Nat) (pl : Int) (hI : itsOf x = .err c pl) :
    Calls Tryd.prog 5 #[.string x, .int .i64 fl] w fun e w' => e = .returned (.bool true) ∧ Below w.heap.size w w' := by
  have he := eq4
  have hlt : x.size ≤ 5000 := hs
  have hd1 := fun w hE => D.read A (⟨#[91]⟩ ++ x ++ ⟨#[93]⟩) 0 (bits .and .i64 fl 2) w hE (by rw [size_p]; omega) (by decide) (by decide)
  have hd2 := fun w hE => D.read A (⟨#[91, 94]⟩ ++ x ++ ⟨#[93]⟩) 0 (bits .and .i64 fl 2) w hE (by rw [size_q]; omega) (by decide) (by decide)
  have hd3 := fun w hE => D.read A (⟨#[91, 94]⟩ ++ x ++ ⟨#[93]⟩) 0 (bits .or .i64 fl 4) w hE (by rw [size_q]; omega) (by decide) (by decide)
  have hd4 := fun w hE => D.read A (⟨#[91, 94]⟩ ++ x ++ ⟨#[93]⟩) 0 (bits .andNot .i64 fl 4) w hE (by rw [size_q]; omega) (by decide) (by decide)
  have hr := turns_err x hp0 h94 c pl hI
  rw [(hr _ _).1] at hd1
  rw [(hr _ _).2.1] at hd2 hd3 hd4
  obtain ⟨-, -, hpq, hpl0, hpl1⟩ := hr false false
  have HL := Lib.hid (brlives_any D A w hE hT)
  have HD1 := Lib.hid hd1; have HD2 := Lib.hid hd2; have HD3 := Lib.hid hd3; have HD4 := Lib.hid hd4
  have HE := Lib.hid hE; have HT := Lib.hid hT
  have g1 : decide (x.size > 5000) = false := by simp; omega
  have g3 : decide ((5000 : Int) < x.size) = false := by simp; omega
  have hl := toList_pos hp0
  have l1 : x.toList.isEmpty = false := by simpa using hl
  have l2 : (x.toList == []) = false := by simpa using hl
  have e94 : ((x[0].toNat : Int) == 94) = false := by rw [bt_at hp0]; simp; omega
  clear hd1 hd2 hd3 hd4 hl D hE hT h94 hr hI
  go_enter Tryd.func5, Tryd.ntmps5
  go_wp2_with fail
  refine HL.out.mono ?_; rintro e w1 ⟨rfl, hb1⟩
  have HB1 := Lib.hid hb1; have HE1 := Lib.hid (HE.out.below hb1); have HT1 := Lib.hid (HT.out.later hb1)
  clear hb1
  go_wp2_with fail
  refine (HD1.out _ HE1.out).mono ?_
  intro e w2 hx
  obtain ⟨v2, rfl, hv, hb2⟩ := hx.err rfl
  obtain ⟨t2, q2, rfl⟩ := hv.iface
  have hbp := HB1.out.trans (hb2.mono HB1.out.size)
  have HB2 : Hid (Below w.heap.size w (w2.alloc (.cells #[.int .u64 0, .int .u64 0, .int .u64 0, .int .u64 0] 25))) := Lib.hid (hbp.alloc hbp.size _)
  have hbB : Below w1.heap.size w1 (w2.alloc (.cells #[.int .u64 0, .int .u64 0, .int .u64 0, .int .u64 0] 25)) := hb2.alloc hb2.size _
  have HE2 := Lib.hid (HE1.out.below hbB); have HT2 := Lib.hid (HT1.out.later hbB)
  have Z2_2 : Hid ((w2.alloc (.cells #[.int .u64 0, .int .u64 0, .int .u64 0, .int .u64 0] 25)).heap[w2.heap.size]? = some (.cells #[.int .u64 0, .int .u64 0, .int .u64 0, .int .u64 0] 25)) := Lib.hid (heap_alloc_new w2 _)
  have HV2_2 : Hid (ErrAt A (w2.alloc (.cells #[.int .u64 0, .int .u64 0, .int .u64 0, .int .u64 0] 25)) (.iface t2 q2) c (pl)) := Lib.hid (hv.later ((Below.refl w2.heap.size w2).alloc (Nat.le_refl _) _))
  clear hbp hbB hb2 hv
  go_wp2_with fail
  refine (HD2.out _ HE2.out).mono ?_
  intro e w3 hx
  obtain ⟨v3, rfl, hv, hb3⟩ := hx.err rfl
  obtain ⟨t3, q3, rfl⟩ := hv.iface
  have hbp := HB2.out.trans (hb3.mono HB2.out.size)
  have HB3 : Hid (Below w.heap.size w (w3.alloc (.cells #[.int .u64 0, .int .u64 0, .int .u64 0, .int .u64 0] 25))) := Lib.hid (hbp.alloc hbp.size _)
  have hbB : Below (w2.alloc (.cells #[.int .u64 0, .int .u64 0, .int .u64 0, .int .u64 0] 25)).heap.size (w2.alloc (.cells #[.int .u64 0, .int .u64 0, .int .u64 0, .int .u64 0] 25)) (w3.alloc (.cells #[.int .u64 0, .int .u64 0, .int .u64 0, .int .u64 0] 25)) := hb3.alloc hb3.size _
  have HE3 := Lib.hid (HE2.out.below hbB); have HT3 := Lib.hid (HT2.out.later hbB)
  have Z2_3 := Lib.hid (keep_blk hbB Z2_2.out)
  have Z3_3 : Hid ((w3.alloc (.cells #[.int .u64 0, .int .u64 0, .int .u64 0, .int .u64 0] 25)).heap[w3.heap.size]? = some (.cells #[.int .u64 0, .int .u64 0, .int .u64 0, .int .u64 0] 25)) := Lib.hid (heap_alloc_new w3 _)
  have HV2_3 := Lib.hid (HV2_2.out.later hbB)
  have HV3_3 : Hid (ErrAt A (w3.alloc (.cells #[.int .u64 0, .int .u64 0, .int .u64 0, .int .u64 0] 25)) (.iface t3 q3) c (plq c pl)) := Lib.hid (hv.later ((Below.refl w3.heap.size w3).alloc (Nat.le_refl _) _))
  clear hbp hbB hb3 Z2_2 hv HV2_2
  go_wp2_with fail
  refine (HD3.out _ HE3.out).mono ?_
  intro e w4 hx
  obtain ⟨v4, rfl, hv, hb4⟩ := hx.err rfl
  obtain ⟨t4, q4, rfl⟩ := hv.iface
  have hbp := HB3.out.trans (hb4.mono HB3.out.size)
  have HB4 : Hid (Below w.heap.size w (w4.alloc (.cells #[.int .u64 0, .int .u64 0, .int .u64 0, .int .u64 0] 25))) := Lib.hid (hbp.alloc hbp.size _)
  have hbB : Below (w3.alloc (.cells #[.int .u64 0, .int .u64 0, .int .u64 0, .int .u64 0] 25)).heap.size (w3.alloc (.cells #[.int .u64 0, .int .u64 0, .int .u64 0, .int .u64 0] 25)) (w4.alloc (.cells #[.int .u64 0, .int .u64 0, .int .u64 0, .int .u64 0] 25)) := hb4.alloc hb4.size _
  have HE4 := Lib.hid (HE3.out.below hbB); have HT4 := Lib.hid (HT3.out.later hbB)
  have Z2_4 := Lib.hid (keep_blk hbB Z2_3.out)
  have Z3_4 := Lib.hid (keep_blk hbB Z3_3.out)
  have Z4_4 : Hid ((w4.alloc (.cells #[.int .u64 0, .int .u64 0, .int .u64 0, .int .u64 0] 25)).heap[w4.heap.size]? = some (.cells #[.int .u64 0, .int .u64 0, .int .u64 0, .int .u64 0] 25)) := Lib.hid (heap_alloc_new w4 _)
  have HV2_4 := Lib.hid (HV2_3.out.later hbB)
  have HV3_4 := Lib.hid (HV3_3.out.later hbB)
  have HV4_4 : Hid (ErrAt A (w4.alloc (.cells #[.int .u64 0, .int .u64 0, .int .u64 0, .int .u64 0] 25)) (.iface t4 q4) c (plq c pl)) := Lib.hid (hv.later ((Below.refl w4.heap.size w4).alloc (Nat.le_refl _) _))
  clear hbp hbB hb4 Z2_3 Z3_3 hv HV2_3 HV3_3
  go_wp2_with fail
  refine (HD4.out _ HE4.out).mono ?_
  intro e w5 hx
  obtain ⟨v5, rfl, hv, hb5⟩ := hx.err rfl
  obtain ⟨t5, q5, rfl⟩ := hv.iface
  have hbp := HB4.out.trans (hb5.mono HB4.out.size)
  have HB5 : Hid (Below w.heap.size w (w5.alloc (.cells #[.int .u64 0, .int .u64 0, .int .u64 0, .int .u64 0] 25))) := Lib.hid (hbp.alloc hbp.size _)
  have hbB : Below (w4.alloc (.cells #[.int .u64 0, .int .u64 0, .int .u64 0, .int .u64 0] 25)).heap.size (w4.alloc (.cells #[.int .u64 0, .int .u64 0, .int .u64 0, .int .u64 0] 25)) (w5.alloc (.cells #[.int .u64 0, .int .u64 0, .int .u64 0, .int .u64 0] 25)) := hb5.alloc hb5.size _
  have HE5 := Lib.hid (HE4.out.below hbB); have HT5 := Lib.hid (HT4.out.later hbB)
  have Z2_5 := Lib.hid (keep_blk hbB Z2_4.out)
  have Z3_5 := Lib.hid (keep_blk hbB Z3_4.out)
  have Z4_5 := Lib.hid (keep_blk hbB Z4_4.out)
  have Z5_5 : Hid ((w5.alloc (.cells #[.int .u64 0, .int .u64 0, .int .u64 0, .int .u64 0] 25)).heap[w5.heap.size]? = some (.cells #[.int .u64 0, .int .u64 0, .int .u64 0, .int .u64 0] 25)) := Lib.hid (heap_alloc_new w5 _)
  have HV2_5 := Lib.hid (HV2_4.out.later hbB)
  have HV3_5 := Lib.hid (HV3_4.out.later hbB)
  have HV4_5 := Lib.hid (HV4_4.out.later hbB)
  have HV5_5 : Hid (ErrAt A (w5.alloc (.cells #[.int .u64 0, .int .u64 0, .int .u64 0, .int .u64 0] 25)) (.iface t5 q5) c (plq c pl)) := Lib.hid (hv.later ((Below.refl w5.heap.size w5).alloc (Nat.le_refl _) _))
  clear hbp hbB hb5 Z2_4 Z3_4 Z4_4 hv HV2_4 HV3_4 HV4_4
  go_wp2_with fail
  refine (HV2_5.out.num HE5.out).mono ?_; rintro e y5 ⟨rfl, hb⟩
  have HB6 := Lib.hid (HB5.out.trans (hb.mono HB5.out.size)); have HE6 := Lib.hid (HE5.out.below hb); have HT6 := Lib.hid (HT5.out.later hb)
  have HV2_6 := Lib.hid (HV2_5.out.later hb)
  have HV3_6 := Lib.hid (HV3_5.out.later hb)
  have HV4_6 := Lib.hid (HV4_5.out.later hb)
  have HV5_6 := Lib.hid (HV5_5.out.later hb)
  clear hb HV2_5 HV3_5 HV4_5 HV5_5
  go_wp2_with fail
  refine (HV3_6.out.num HE6.out).mono ?_; rintro e y6 ⟨rfl, hb⟩
  have HB7 := Lib.hid (HB6.out.trans (hb.mono HB6.out.size)); have HE7 := Lib.hid (HE6.out.below hb); have HT7 := Lib.hid (HT6.out.later hb)
  have HV2_7 := Lib.hid (HV2_6.out.later hb)
  have HV3_7 := Lib.hid (HV3_6.out.later hb)
  have HV4_7 := Lib.hid (HV4_6.out.later hb)
  have HV5_7 := Lib.hid (HV5_6.out.later hb)
  clear hb HV2_6 HV3_6 HV4_6 HV5_6
  go_wp2_with fail
  refine (HV4_7.out.num HE7.out).mono ?_; rintro e y7 ⟨rfl, hb⟩
  have HB8 := Lib.hid (HB7.out.trans (hb.mono HB7.out.size)); have HE8 := Lib.hid (HE7.out.below hb); have HT8 := Lib.hid (HT7.out.later hb)
  have HV2_8 := Lib.hid (HV2_7.out.later hb)
  have HV3_8 := Lib.hid (HV3_7.out.later hb)
  have HV4_8 := Lib.hid (HV4_7.out.later hb)
  have HV5_8 := Lib.hid (HV5_7.out.later hb)
  clear hb HV2_7 HV3_7 HV4_7 HV5_7
  go_wp2_with fail
  refine (HV3_8.out.num HE8.out).mono ?_; rintro e y8 ⟨rfl, hb⟩
  have HB9 := Lib.hid (HB8.out.trans (hb.mono HB8.out.size)); have HE9 := Lib.hid (HE8.out.below hb); have HT9 := Lib.hid (HT8.out.later hb)
  have HV2_9 := Lib.hid (HV2_8.out.later hb)
  have HV3_9 := Lib.hid (HV3_8.out.later hb)
  have HV4_9 := Lib.hid (HV4_8.out.later hb)
  have HV5_9 := Lib.hid (HV5_8.out.later hb)
  clear hb HV2_8 HV3_8 HV4_8 HV5_8
  go_wp2_with fail
  refine (HV5_9.out.num HE9.out).mono ?_; rintro e y9 ⟨rfl, hb⟩
  have HB10 := Lib.hid (HB9.out.trans (hb.mono HB9.out.size)); have HE10 := Lib.hid (HE9.out.below hb); have HT10 := Lib.hid (HT9.out.later hb)
  have HV2_10 := Lib.hid (HV2_9.out.later hb)
  have HV3_10 := Lib.hid (HV3_9.out.later hb)
  have HV4_10 := Lib.hid (HV4_9.out.later hb)
  have HV5_10 := Lib.hid (HV5_9.out.later hb)
  clear hb HV2_9 HV3_9 HV4_9 HV5_9
  go_wp2_with fail
  refine (HV3_10.out.num HE10.out).mono ?_; rintro e y10 ⟨rfl, hb⟩
  have HB11 := Lib.hid (HB10.out.trans (hb.mono HB10.out.size)); have HE11 := Lib.hid (HE10.out.below hb); have HT11 := Lib.hid (HT10.out.later hb)
  have HV2_11 := Lib.hid (HV2_10.out.later hb)
  have HV3_11 := Lib.hid (HV3_10.out.later hb)
  have HV4_11 := Lib.hid (HV4_10.out.later hb)
  have HV5_11 := Lib.hid (HV5_10.out.later hb)
  clear hb HV2_10 HV3_10 HV4_10 HV5_10
  go_wp2_with fail
  refine (HV3_11.out.place HT11.out).mono ?_; rintro e y11 ⟨rfl, hb⟩
  have HB12 := Lib.hid (HB11.out.trans (hb.mono HB11.out.size)); have HE12 := Lib.hid (HE11.out.below hb); have HT12 := Lib.hid (HT11.out.later hb)
  have HV2_12 := Lib.hid (HV2_11.out.later hb)
  have HV3_12 := Lib.hid (HV3_11.out.later hb)
  have HV4_12 := Lib.hid (HV4_11.out.later hb)
  have HV5_12 := Lib.hid (HV5_11.out.later hb)
  clear hb HV2_11 HV3_11 HV4_11 HV5_11
  go_wp2_with fail
  refine (HV2_12.out.place HT12.out).mono ?_; rintro e y12 ⟨rfl, hb⟩
  have HB13 := Lib.hid (HB12.out.trans (hb.mono HB12.out.size)); have HE13 := Lib.hid (HE12.out.below hb); have HT13 := Lib.hid (HT12.out.later hb)
  have HV2_13 := Lib.hid (HV2_12.out.later hb)
  have HV3_13 := Lib.hid (HV3_12.out.later hb)
  have HV4_13 := Lib.hid (HV4_12.out.later hb)
  have HV5_13 := Lib.hid (HV5_12.out.later hb)
  clear hb HV2_12 HV3_12 HV4_12 HV5_12
  have wp1 : IntKind.i64.wrap (pl + 1) = pl + 1 := IntWalk.i64_in _ (by omega)
  generalize plq c pl = pq at *
  rcases hpq with rfl | rfl
  · go_wp2
    go_ret
    exact ⟨rfl, HB13.out⟩
  · have hne : (pl + 1 == pl) = false := by rw [beq_eq_false_iff_ne]; omega
    go_wp2_with fail
    refine (HV3_13.out.place HT13.out).mono ?_; rintro e y13 ⟨rfl, hb⟩
    have HB14 := Lib.hid (HB13.out.trans (hb.mono HB13.out.size)); have HE14 := Lib.hid (HE13.out.below hb); have HT14 := Lib.hid (HT13.out.later hb)
    have HV2_14 := Lib.hid (HV2_13.out.later hb)
    have HV3_14 := Lib.hid (HV3_13.out.later hb)
    have HV4_14 := Lib.hid (HV4_13.out.later hb)
    have HV5_14 := Lib.hid (HV5_13.out.later hb)
    clear hb HV2_13 HV3_13 HV4_13 HV5_13
    go_wp2_with fail
    refine (HV2_14.out.place HT14.out).mono ?_; rintro e y14 ⟨rfl, hb⟩
    have HB15 := Lib.hid (HB14.out.trans (hb.mono HB14.out.size)); have HE15 := Lib.hid (HE14.out.below hb); have HT15 := Lib.hid (HT14.out.later hb)
    have HV2_15 := Lib.hid (HV2_14.out.later hb)
    have HV3_15 := Lib.hid (HV3_14.out.later hb)
    have HV4_15 := Lib.hid (HV4_14.out.later hb)
    have HV5_15 := Lib.hid (HV5_14.out.later hb)
    clear hb HV2_14 HV3_14 HV4_14 HV5_14
    go_wp2
    go_ret
    exact ⟨rfl, HB15.out⟩
set_option maxRecDepth 100000 in
set_option maxHeartbeats 8000000 in
theorem brturns_big (D : BrDoes) (A : Nat → Addr) (x : ByteArray) (fl : Int) (w : World) (hE : BrEnv w A) (hT : ErrType w) (hs : 5000 < x.size) :
    Calls Tryd.prog 5 #[.string x, .int .i64 fl] w fun e w' => e = .returned (.bool true) ∧ Below w.heap.size w w' := by
  have HL := Lib.hid (brlives_any D A w hE hT)
  have g1 : decide (x.size > 5000) = true := by simpa using hs
  have g3 : decide ((5000 : Int) < x.size) = true := by simp; omega
  clear hs
  clear D hE hT
  go_enter Tryd.func5, Tryd.ntmps5
  go_wp2_with fail
  refine HL.out.mono ?_; rintro e w1 ⟨rfl, hb1⟩
  have HB1 := Lib.hid hb1
  clear hb1
  go_wp2
  go_ret
  exact ⟨rfl, HB1.out⟩
set_option maxRecDepth 100000 in
set_option maxHeartbeats 8000000 in
theorem brturns_none (D : BrDoes) (A : Nat → Addr) (x : ByteArray) (fl : Int) (w : World) (hE : BrEnv w A) (hT : ErrType w) (hs : x.size = 0) :
    Calls Tryd.prog 5 #[.string x, .int .i64 fl] w fun e w' => e = .returned (.bool true) ∧ Below w.heap.size w w' := by
  have HL := Lib.hid (brlives_any D A w hE hT)
  have g1 : decide (x.size > 5000) = false := by simp; omega
  have g3 : decide ((5000 : Int) < x.size) = false := by simp; omega
  have hl : x.toList = [] := by rw [toList_eq]; exact Array.toList_eq_nil_iff.2 (Array.size_eq_zero_iff.1 hs)
  have l1 : x.toList.isEmpty = true := by rw [hl]; rfl
  have l2 : (x.toList == []) = true := by rw [hl]; rfl
  clear hl hs
  clear D hE hT
  go_enter Tryd.func5, Tryd.ntmps5
  go_wp2_with fail
  refine HL.out.mono ?_; rintro e w1 ⟨rfl, hb1⟩
  have HB1 := Lib.hid hb1
  clear hb1
  go_wp2
  go_ret
  exact ⟨rfl, HB1.out⟩
set_option maxRecDepth 100000 in
set_option maxHeartbeats 8000000 in
theorem brturns_caret (D : BrDoes) (A : Nat → Addr) (x : ByteArray) (fl : Int) (w : World) (hE : BrEnv w A) (hT : ErrType w) (hs : x.size ≤ 5000) (hp0 : 0 < x.size) (h94 : bt x 0 = 94) :
    Calls Tryd.prog 5 #[.string x, .int .i64 fl] w fun e w' => e = .returned (.bool true) ∧ Below w.heap.size w w' := by
  have HL := Lib.hid (brlives_any D A w hE hT)
  have g1 : decide (x.size > 5000) = false := by simp; omega
  have g3 : decide ((5000 : Int) < x.size) = false := by simp; omega
  have hl := toList_pos hp0
  have l1 : x.toList.isEmpty = false := by simpa using hl
  have l2 : (x.toList == []) = false := by simpa using hl
  have e94 : ((x[0].toNat : Int) == 94) = true := by rw [bt_at hp0, h94]; rfl
  clear hl h94
  clear D hE hT
  go_enter Tryd.func5, Tryd.ntmps5
  go_wp2_with fail
  refine HL.out.mono ?_; rintro e w1 ⟨rfl, hb1⟩
  have HB1 := Lib.hid hb1
  clear hb1
  go_wp2
  go_ret
  exact ⟨rfl, HB1.out⟩
theorem brturns_any (D : BrDoes) (A : Nat → Addr) (x : ByteArray) (fl : Int) (w : World) (hE : BrEnv w A) (hT : ErrType w) :
    Calls Tryd.prog 5 #[.string x, .int .i64 fl] w fun e w' => e = .returned (.bool true) ∧ Below w.heap.size w w' := by
  by_cases hs : x.size ≤ 5000
  · by_cases h0 : 0 < x.size
    · by_cases h94 : bt x 0 = 94
      · exact brturns_caret D A x fl w hE hT hs h0 h94
      · cases hI : itsOf x with
        | ok P j => exact brturns_ok D A x fl w hE hT hs h0 h94 P j hI
        | err c pl => exact brturns_err D A x fl w hE hT hs h0 h94 c pl hI
    · exact brturns_none D A x fl w hE hT (by omega)
  · exact brturns_big D A x fl w hE hT (by omega)
end Go.Proofs.YtbpecijdmhablaaDoor
/- A set of bytes, and a list of sets, as they come in among the arguments. -/
namespace Go.Proofs.YtbpecijdmhablaaDoor
open Go.ChangeShapes Go.WideShapes Go.ChangeAt Go.RowKit
theorem Tryd.cellsSet : Tryd.prog.cellsOf 25 = 4 := by kernel_rfl
theorem Tryd.cellsU64 : Tryd.prog.cellsOf 23 = 1 := by kernel_rfl
theorem word_of {n : Int} (h : (Lit.int .u64 n).wf = true) : ∃ x : BitVec 64, n = Oc.U x := by
  simp only [Lit.wf, IntKind.min, IntKind.max, IntKind.signed, IntKind.bits, Bool.and_eq_true] at h
  refine ⟨BitVec.ofInt 64 n, ?_⟩
  unfold Oc.U; rw [BitVec.toNat_ofInt]
  have h1 := h.1; have h2 := h.2
  simp at h1 h2
  omega
/-- Four cells that read as a set. -/
theorem open_words {H : Type} {enc : TypeId × Value → H} {w : World} {base : Nat} {spare : Nat → Bool} {held : Bool} {fuel : Nat} {c0 c1 c2 c3 : Value} {x : DataW H × List MemPlace}
    (h : DataW.trod enc Tryd.prog w base spare held fuel 25 [c0, c1, c2, c3] = some x) : ∃ a b c d : BitVec 64, c0 = .int .u64 (Oc.U a) ∧ c1 = .int .u64 (Oc.U b) ∧ c2 = .int .u64 (Oc.U c) ∧ c3 = .int .u64 (Oc.U d) := by
  obtain ⟨y0, y1, y2, y3, n, _, h0, h1, h2, h3⟩ := trod_array4 Tryd.underlying25 Tryd.cellsU64 h
  obtain ⟨n0, e0, -, w0⟩ := DataW.trod_int Tryd.underlying23 h0
  obtain ⟨n1, e1, -, w1⟩ := DataW.trod_int Tryd.underlying23 h1
  obtain ⟨n2, e2, -, w2⟩ := DataW.trod_int Tryd.underlying23 h2
  obtain ⟨n3, e3, -, w3⟩ := DataW.trod_int Tryd.underlying23 h3
  obtain ⟨a, rfl⟩ := word_of w0
  obtain ⟨b, rfl⟩ := word_of w1
  obtain ⟨c, rfl⟩ := word_of w2
  obtain ⟨d, rfl⟩ := word_of w3
  simp only [List.cons.injEq, and_true] at e0 e1 e2 e3
  exact ⟨a, b, c, d, e0, e1, e2, e3⟩
set_option maxRecDepth 100000 in
/-- A set among the arguments. -/
theorem open_set {H : Type} {enc : TypeId × Value → H} {w : World} {base b0 : Nat} {spare : Nat → Bool} {held : Bool} {v : Value} {y : DataW H} {ps : List MemPlace} {r : Reach}
    (hv : Value.okWide Tryd.prog w r b0 25 v) (h : DataW.Trod enc Tryd.prog w base spare held 25 v y ps) : ∃ a b c d : BitVec 64, v = (.agg #[.int .u64 (Oc.U a), .int .u64 (Oc.U b), .int .u64 (Oc.U c), .int .u64 (Oc.U d)]) := by
  unfold Value.okWide at hv
  rw [Tryd.underlying25] at hv
  obtain ⟨cs, rfl, hsz, -⟩ := hv
  rw [Tryd.cellsSet] at hsz
  obtain ⟨c0, c1, c2, c3, rfl⟩ := Joins.array4 hsz
  obtain ⟨fuel, hf⟩ := h
  obtain ⟨a, b, c, d, rfl, rfl, rfl, rfl⟩ := open_words hf
  exact ⟨a, b, c, d, rfl⟩
set_option maxRecDepth 100000 in
/-- A list of sets among the arguments. -/
theorem open_sets {H : Type} {enc : TypeId × Value → H} {w : World} {base : Nat} {spare : Nat → Bool} {held : Bool} {p : Option Addr} {len cap : Nat} {y : DataW H} {ps : List MemPlace}
    (h : DataW.Trod enc Tryd.prog w base spare held 57 (.slice p len cap) y ps) : ∃ A B C D : Nat → BitVec 64, SetsAt w p len A B C D ∧ (p = none → len = 0 ∧ cap = 0) ∧ len ≤ maxLen := by
  obtain ⟨fuel, hf⟩ := h
  rcases Deep.open_slice Tryd.underlying57 hf with ⟨hcs, _⟩ | ⟨a, l, c, m, n, D, Pl, hcs, _, hl, hm, hmm, _, hall⟩
  · simp [Value.cells] at hcs
    obtain ⟨rfl, rfl, rfl⟩ := hcs
    exact ⟨fun _ => 0#64, fun _ => 0#64, fun _ => 0#64, fun _ => 0#64, (fun i hi => by omega), (fun _ => ⟨rfl, rfl⟩), by unfold maxLen; omega⟩
  · simp [Value.cells] at hcs
    obtain ⟨rfl, rfl, rfl⟩ := hcs
    have hlm : len ≤ m := by rw [hmm]; split <;> omega
    have key : ∀ i, i < len → ∃ x : BitVec 64 × BitVec 64 × BitVec 64 × BitVec 64, w.cell? ((a.add (i * 4)).add 0) = some (.int .u64 (Oc.U x.1)) ∧ w.cell? ((a.add (i * 4)).add 1) = some (.int .u64 (Oc.U x.2.1)) ∧
        w.cell? ((a.add (i * 4)).add 2) = some (.int .u64 (Oc.U x.2.2.1)) ∧ w.cell? ((a.add (i * 4)).add 3) = some (.int .u64 (Oc.U x.2.2.2)) := by
      intro i hi
      obtain ⟨cs', hc, hr⟩ := hall i (by omega)
      rw [Tryd.cellsSet] at hc
      unfold World.cells? at hc
      split at hc
      · rw [show List.range 4 = [0, 1, 2, 3] from rfl] at hc
        simp only [List.mapM_cons, List.mapM_nil, Option.bind_eq_bind, Option.bind_eq_some_iff, Option.pure_def, Option.some.injEq] at hc
        obtain ⟨v0, g0, t0, ⟨v1, g1, t1, ⟨v2, g2, t2, ⟨v3, g3, t3, rfl, rfl⟩, rfl⟩, rfl⟩, rfl⟩ := hc
        obtain ⟨x0, x1, x2, x3, rfl, rfl, rfl, rfl⟩ := open_words hr
        exact ⟨(x0, x1, x2, x3), g0, g1, g2, g3⟩
      · cases hc
    obtain ⟨f, hf⟩ := Deep.choose_lt key
    refine ⟨fun i => (f i).1, fun i => (f i).2.1, fun i => (f i).2.2.1, fun i => (f i).2.2.2, ?_, (fun h => by cases h), by omega⟩
    intro i hi
    have hs : a.spot = none := by simpa [Addr.add] using World.cell?_spot (hf 0 (by omega)).1
    obtain ⟨g0, g1, g2, g3⟩ := hf i hi
    obtain ⟨b, o, sp⟩ := a
    subst hs
    rw [Addr.add_mid, Addr.add_mid] at g0 g1 g2 g3
    rw [Nat.add_zero] at g0
    exact ⟨b, o, rfl, block_lt_of_cell g0, g0, g1, g2, g3⟩
theorem Tryd.own : ownKnob Tryd.prog.godebug = none := by kernel_rfl
theorem Tryd.laidOut : laidOutB Tryd.prog = true := by kernel_rfl
end Go.Proofs.YtbpecijdmhablaaDoor
/- What the laws of layer 3 take of the program's variables: the type error, and, where the code has them, the table of the words and the library's powers of ten. -/
namespace Go.Proofs.YtbpecijdmhablaaDoor
open Go.RowKit
structure FaEnv (w : World) : Prop where
  ty : ErrType w
theorem FaEnv.later {w w' : World} (h : FaEnv w) (hb : Below w.heap.size w w') : FaEnv w' where
  ty := h.ty.later hb
end Go.Proofs.YtbpecijdmhablaaDoor
/- What a listed handle beside listed data gives: package errors' variable of the type error. -/
namespace Go.Proofs.YtbpecijdmhablaaDoor
open Go.ChangeShapes Go.WideShapes Go.ChangeAt Go.RowKit
theorem laid_split {P : Program} {l : List (String × DataW Unit)} {W : World} (h : laidMetH P l W) : laidMet P (l.filter fun x => x.2.handleName?.isNone) W ∧ handlesMet P (l.filter fun x => x.2.handleName?.isSome) W := by
  unfold laidMetH at h
  generalize hfl : (l.filter fun x => x.2.handleName?.isSome) = fl at h
  cases fl with
  | nil =>
    have e : (l.filter fun x => x.2.handleName?.isNone) = l := by
      rw [List.filter_eq_self]
      intro x hx
      have := List.filter_eq_nil_iff.1 hfl x hx
      cases hh : x.2.handleName? with
      | none => rfl
      | some y => rw [hh] at this; simp at this
    rw [e]
    exact ⟨h, fun x hx => by cases hx⟩
  | cons x r => exact h
theorem Tryd.errorTypeG : Tryd.prog.globalNamed "errors.errorType" = some 21 := by kernel_rfl
theorem Tryd.rtypeT : (Tryd.prog.cutTypes.find? (·.1 == "internal/reflectlite.rtype")).map (·.2) = some 89 := by kernel_rfl
theorem Tryd.errorRow : ((List.range Tryd.prog.types.size).filter fun t => Tryd.prog.rowNamed t [101, 114, 114, 111, 114]) = [27] := by kernel_rfl
theorem Tryd.errorHandle : typeHandle Tryd.prog 27 = .pointer (some ⟨Tryd.prog.globals.size, 27, none⟩) := by kernel_rfl
theorem errtype_of {l : List (String × DataW Unit)} {W : World} (h : handlesMet Tryd.prog l W) (hl : ("errors.errorType", Rows.laid_errors_errorType) ∈ l) : ErrType W := by
  obtain ⟨name, u, ty, e1, e2, e3, e4, e5⟩ := h _ hl
  have en : name = [101, 114, 114, 111, 114] := (Option.some.inj e1).symm
  subst en
  obtain rfl := Option.some.inj (Tryd.rtypeT.symm.trans e2)
  have hm : ty ∈ (List.range Tryd.prog.types.size).filter fun t => Tryd.prog.rowNamed t [101, 114, 114, 111, 114] := List.mem_filter.2 ⟨List.mem_range.2 e3, e4⟩
  rw [Tryd.errorRow] at hm
  obtain rfl := List.mem_singleton.1 hm
  rw [Tryd.errorHandle] at e5
  unfold ErrType
  simpa using World.var?_cell Tryd.errorTypeG e5 0
theorem errList_plain : ∀ x, x ∈ errList → x.2.handleName?.isNone = true := by
  have h : (errList.all fun x => x.2.handleName?.isNone) = true := by kernel_rfl
  intro x hx
  exact List.all_eq_true.1 h x hx
/-- The sentinels and the handle out of one list. -/
theorem errs_handle_of {l : List (String × DataW Unit)} {W : World} (h : laidMetH Tryd.prog l W) (hl : ∀ x, x ∈ errList → x ∈ l) (hh : ("errors.errorType", Rows.laid_errors_errorType) ∈ l) : (∃ A, Errs W A) ∧ ErrType W := by
  obtain ⟨h1, h2⟩ := laid_split h
  exact ⟨errs_of h1 fun x hx => List.mem_filter.2 ⟨hl x hx, errList_plain x hx⟩, errtype_of h2 (List.mem_filter.2 ⟨hh, rfl⟩)⟩
end Go.Proofs.YtbpecijdmhablaaDoor
/- What the listed variables give: the sentinels, the type error, the table of the words, the powers of ten. -/
namespace Go.Proofs.YtbpecijdmhablaaDoor
open Go.ChangeShapes Go.WideShapes Go.ChangeAt Go.RowKit
/-- All that the laws take, out of one list. -/
theorem fault_env_of {l : List (String × DataW Unit)} {W : World} (h : laidMetH Tryd.prog l W) (hl : ∀ x, x ∈ errList → x ∈ l) (hh : ("errors.errorType", Rows.laid_errors_errorType) ∈ l)
    : (∃ A, Errs W A) ∧ FaEnv W := by
  obtain ⟨h1, h2⟩ := errs_handle_of h hl hh
  have h3 := (laid_split h).1
  exact ⟨h1, {
    ty := h2
    }⟩
end Go.Proofs.YtbpecijdmhablaaDoor
namespace Go.Proofs.YtbpecijdmhablaaDoor.bracketTurns
open Go.ChangeShapes Go.WideShapes Go.ChangeAt Go.RowKit
set_option maxRecDepth 100000 in
theorem contract (H : Type) (enc : TypeId × Value → H) (W : World) (base : Nat) (args : Array Value) (ds gs : List (DataW H)) (before : List MemPlace)
    (hval0 : ∀ (j : Nat) t v, Tryd.f5.params[j]? = some t → args[j]? = some v → Value.okWide Tryd.prog W .any base t v)
    (hW : DataW.Whole enc Tryd.prog Tryd.f5.params.toList Rows.bracketTurnsSpec.vars false W args.toList ds gs before)
    (hsz0 : (DataW.weightsEach Tryd.prog (Tryd.f5.params.toList ++ Rows.bracketTurnsSpec.plain.varTypes Tryd.prog) (ds ++ gs)).all (· ≤ reachBytes) = true)
    (hL : laidMetH Tryd.prog [("errors.errorType", Rows.laid_errors_errorType), ("trawl/api.ErrBracket", Rows.laid_trawl_api_ErrBracket), ("trawl/api.ErrParen", Rows.laid_trawl_api_ErrParen), ("trawl/api.ErrBrace", Rows.laid_trawl_api_ErrBrace), ("trawl/api.ErrCount", Rows.laid_trawl_api_ErrCount), ("trawl/api.ErrRange", Rows.laid_trawl_api_ErrRange), ("trawl/api.ErrClass", Rows.laid_trawl_api_ErrClass), ("trawl/api.ErrCollate", Rows.laid_trawl_api_ErrCollate), ("trawl/api.ErrEscape", Rows.laid_trawl_api_ErrEscape), ("trawl/api.ErrRepeat", Rows.laid_trawl_api_ErrRepeat), ("trawl/api.ErrTooBig", Rows.laid_trawl_api_ErrTooBig), ("trawl/api.ErrNest", Rows.laid_trawl_api_ErrNest), ("trawl/api.ErrLong", Rows.laid_trawl_api_ErrLong), ("trawl/api.ErrTree", Rows.laid_trawl_api_ErrTree), ("trawl/api.ErrDeep", Rows.laid_trawl_api_ErrDeep), ("trawl/api.ErrArgument", Rows.laid_trawl_api_ErrArgument), ("trawl/api.ErrNoMatch", Rows.laid_trawl_api_ErrNoMatch), ("trawl/api.ErrImage", Rows.laid_trawl_api_ErrImage), ("trawl/api.ErrMany", Rows.laid_trawl_api_ErrMany), ("trawl/api.ErrOption", Rows.laid_trawl_api_ErrOption), ("trawl/api.ErrCommand", Rows.laid_trawl_api_ErrCommand), ("trawl/api.ErrClosed", Rows.laid_trawl_api_ErrClosed)] W) (hSh : W.ShapedOpen Tryd.prog) :
    Calls Tryd.prog 5 args W fun e W' => ∃ v, e = .returned v ∧ Rows.bracketTurnsSpec.post enc Tryd.prog Tryd.f5 false true false false W args v W' := by
  have hval : ∀ (j : Nat) t v, Tryd.f5.params[j]? = some t → args[j]? = some v → Value.okWide Tryd.prog W .any base t v := hval0
  have hW' := hW
  have hsz := hsz0
  obtain ⟨p, q, hA0, hV, rfl, hfz, hnd⟩ := hW
  have hA : DataW.TrodAll enc Tryd.prog W 0 (fun _ => true) true Tryd.f5.params.toList args.toList ds p := hA0
  rw [Tryd.params5] at hA hval
  obtain ⟨v0, vs0, d0, ds0, p0, q0, hargs, rfl, rfl, h0, r0⟩ := trodAll_cons hA
  obtain ⟨v1, vs1, d1, ds1, p1, q1, rfl, rfl, rfl, h1, r1⟩ := trodAll_cons r0
  obtain ⟨rfl, rfl, rfl⟩ := trodAll_nil r1
  obtain rfl : args = #[v0, v1] := by cases args; simp_all
  obtain ⟨rfl, rfl⟩ := trodVars_none hV
  have lt0 : ∀ x ∈ p0, x.block < W.heap.size := by obtain ⟨m, hm⟩ := h0; exact DataW.trod_lt m _ _ _ hm
  have lt1 : ∀ x ∈ p1, x.block < W.heap.size := by obtain ⟨m, hm⟩ := h1; exact DataW.trod_lt m _ _ _ hm
  obtain ⟨x, rfl, hd0, -, -⟩ := Go.ChangeMaps.open_string Tryd.underlying9 (hval 0 9 v0 rfl rfl) h0
  obtain ⟨fl, rfl, -, -, w1⟩ := open_int Tryd.underlying3 (hval 1 3 v1 rfl rfl) h1
  have hs_x : x.size ≤ 140737488351232 := by
    have := sized_string (P := Tryd.prog) hsz (j := 0) (t := 9) (bytes := x.data.toList) (by rw [Tryd.params5]; rfl) (by rw [hd0]; rfl)
    simpa [reachBytes] using this
  obtain ⟨⟨E, hE⟩, hTy⟩ := fault_env_of hL (fun x h => by
    simp only [errList, List.mem_cons, List.not_mem_nil, or_false] at h
    rcases h with rfl | rfl | rfl | rfl | rfl | rfl | rfl | rfl | rfl | rfl | rfl | rfl | rfl | rfl | rfl | rfl | rfl | rfl | rfl | rfl | rfl
    · exact (List.mem_cons_of_mem _ List.mem_cons_self)
    · exact (List.mem_cons_of_mem _ (List.mem_cons_of_mem _ List.mem_cons_self))
    · exact (List.mem_cons_of_mem _ (List.mem_cons_of_mem _ (List.mem_cons_of_mem _ List.mem_cons_self)))
    · exact (List.mem_cons_of_mem _ (List.mem_cons_of_mem _ (List.mem_cons_of_mem _ (List.mem_cons_of_mem _ List.mem_cons_self))))
    · exact (List.mem_cons_of_mem _ (List.mem_cons_of_mem _ (List.mem_cons_of_mem _ (List.mem_cons_of_mem _ (List.mem_cons_of_mem _ List.mem_cons_self)))))
    · exact (List.mem_cons_of_mem _ (List.mem_cons_of_mem _ (List.mem_cons_of_mem _ (List.mem_cons_of_mem _ (List.mem_cons_of_mem _ (List.mem_cons_of_mem _ List.mem_cons_self))))))
    · exact (List.mem_cons_of_mem _ (List.mem_cons_of_mem _ (List.mem_cons_of_mem _ (List.mem_cons_of_mem _ (List.mem_cons_of_mem _ (List.mem_cons_of_mem _ (List.mem_cons_of_mem _ List.mem_cons_self)))))))
    · exact (List.mem_cons_of_mem _ (List.mem_cons_of_mem _ (List.mem_cons_of_mem _ (List.mem_cons_of_mem _ (List.mem_cons_of_mem _ (List.mem_cons_of_mem _ (List.mem_cons_of_mem _ (List.mem_cons_of_mem _ List.mem_cons_self))))))))
    · exact (List.mem_cons_of_mem _ (List.mem_cons_of_mem _ (List.mem_cons_of_mem _ (List.mem_cons_of_mem _ (List.mem_cons_of_mem _ (List.mem_cons_of_mem _ (List.mem_cons_of_mem _ (List.mem_cons_of_mem _ (List.mem_cons_of_mem _ List.mem_cons_self)))))))))
    · exact (List.mem_cons_of_mem _ (List.mem_cons_of_mem _ (List.mem_cons_of_mem _ (List.mem_cons_of_mem _ (List.mem_cons_of_mem _ (List.mem_cons_of_mem _ (List.mem_cons_of_mem _ (List.mem_cons_of_mem _ (List.mem_cons_of_mem _ (List.mem_cons_of_mem _ List.mem_cons_self))))))))))
    · exact (List.mem_cons_of_mem _ (List.mem_cons_of_mem _ (List.mem_cons_of_mem _ (List.mem_cons_of_mem _ (List.mem_cons_of_mem _ (List.mem_cons_of_mem _ (List.mem_cons_of_mem _ (List.mem_cons_of_mem _ (List.mem_cons_of_mem _ (List.mem_cons_of_mem _ (List.mem_cons_of_mem _ List.mem_cons_self)))))))))))
    · exact (List.mem_cons_of_mem _ (List.mem_cons_of_mem _ (List.mem_cons_of_mem _ (List.mem_cons_of_mem _ (List.mem_cons_of_mem _ (List.mem_cons_of_mem _ (List.mem_cons_of_mem _ (List.mem_cons_of_mem _ (List.mem_cons_of_mem _ (List.mem_cons_of_mem _ (List.mem_cons_of_mem _ (List.mem_cons_of_mem _ List.mem_cons_self))))))))))))
    · exact (List.mem_cons_of_mem _ (List.mem_cons_of_mem _ (List.mem_cons_of_mem _ (List.mem_cons_of_mem _ (List.mem_cons_of_mem _ (List.mem_cons_of_mem _ (List.mem_cons_of_mem _ (List.mem_cons_of_mem _ (List.mem_cons_of_mem _ (List.mem_cons_of_mem _ (List.mem_cons_of_mem _ (List.mem_cons_of_mem _ (List.mem_cons_of_mem _ List.mem_cons_self)))))))))))))
    · exact (List.mem_cons_of_mem _ (List.mem_cons_of_mem _ (List.mem_cons_of_mem _ (List.mem_cons_of_mem _ (List.mem_cons_of_mem _ (List.mem_cons_of_mem _ (List.mem_cons_of_mem _ (List.mem_cons_of_mem _ (List.mem_cons_of_mem _ (List.mem_cons_of_mem _ (List.mem_cons_of_mem _ (List.mem_cons_of_mem _ (List.mem_cons_of_mem _ (List.mem_cons_of_mem _ List.mem_cons_self))))))))))))))
    · exact (List.mem_cons_of_mem _ (List.mem_cons_of_mem _ (List.mem_cons_of_mem _ (List.mem_cons_of_mem _ (List.mem_cons_of_mem _ (List.mem_cons_of_mem _ (List.mem_cons_of_mem _ (List.mem_cons_of_mem _ (List.mem_cons_of_mem _ (List.mem_cons_of_mem _ (List.mem_cons_of_mem _ (List.mem_cons_of_mem _ (List.mem_cons_of_mem _ (List.mem_cons_of_mem _ (List.mem_cons_of_mem _ List.mem_cons_self)))))))))))))))
    · exact (List.mem_cons_of_mem _ (List.mem_cons_of_mem _ (List.mem_cons_of_mem _ (List.mem_cons_of_mem _ (List.mem_cons_of_mem _ (List.mem_cons_of_mem _ (List.mem_cons_of_mem _ (List.mem_cons_of_mem _ (List.mem_cons_of_mem _ (List.mem_cons_of_mem _ (List.mem_cons_of_mem _ (List.mem_cons_of_mem _ (List.mem_cons_of_mem _ (List.mem_cons_of_mem _ (List.mem_cons_of_mem _ (List.mem_cons_of_mem _ List.mem_cons_self))))))))))))))))
    · exact (List.mem_cons_of_mem _ (List.mem_cons_of_mem _ (List.mem_cons_of_mem _ (List.mem_cons_of_mem _ (List.mem_cons_of_mem _ (List.mem_cons_of_mem _ (List.mem_cons_of_mem _ (List.mem_cons_of_mem _ (List.mem_cons_of_mem _ (List.mem_cons_of_mem _ (List.mem_cons_of_mem _ (List.mem_cons_of_mem _ (List.mem_cons_of_mem _ (List.mem_cons_of_mem _ (List.mem_cons_of_mem _ (List.mem_cons_of_mem _ (List.mem_cons_of_mem _ List.mem_cons_self)))))))))))))))))
    · exact (List.mem_cons_of_mem _ (List.mem_cons_of_mem _ (List.mem_cons_of_mem _ (List.mem_cons_of_mem _ (List.mem_cons_of_mem _ (List.mem_cons_of_mem _ (List.mem_cons_of_mem _ (List.mem_cons_of_mem _ (List.mem_cons_of_mem _ (List.mem_cons_of_mem _ (List.mem_cons_of_mem _ (List.mem_cons_of_mem _ (List.mem_cons_of_mem _ (List.mem_cons_of_mem _ (List.mem_cons_of_mem _ (List.mem_cons_of_mem _ (List.mem_cons_of_mem _ (List.mem_cons_of_mem _ List.mem_cons_self))))))))))))))))))
    · exact (List.mem_cons_of_mem _ (List.mem_cons_of_mem _ (List.mem_cons_of_mem _ (List.mem_cons_of_mem _ (List.mem_cons_of_mem _ (List.mem_cons_of_mem _ (List.mem_cons_of_mem _ (List.mem_cons_of_mem _ (List.mem_cons_of_mem _ (List.mem_cons_of_mem _ (List.mem_cons_of_mem _ (List.mem_cons_of_mem _ (List.mem_cons_of_mem _ (List.mem_cons_of_mem _ (List.mem_cons_of_mem _ (List.mem_cons_of_mem _ (List.mem_cons_of_mem _ (List.mem_cons_of_mem _ (List.mem_cons_of_mem _ List.mem_cons_self)))))))))))))))))))
    · exact (List.mem_cons_of_mem _ (List.mem_cons_of_mem _ (List.mem_cons_of_mem _ (List.mem_cons_of_mem _ (List.mem_cons_of_mem _ (List.mem_cons_of_mem _ (List.mem_cons_of_mem _ (List.mem_cons_of_mem _ (List.mem_cons_of_mem _ (List.mem_cons_of_mem _ (List.mem_cons_of_mem _ (List.mem_cons_of_mem _ (List.mem_cons_of_mem _ (List.mem_cons_of_mem _ (List.mem_cons_of_mem _ (List.mem_cons_of_mem _ (List.mem_cons_of_mem _ (List.mem_cons_of_mem _ (List.mem_cons_of_mem _ (List.mem_cons_of_mem _ List.mem_cons_self))))))))))))))))))))
    · exact (List.mem_cons_of_mem _ (List.mem_cons_of_mem _ (List.mem_cons_of_mem _ (List.mem_cons_of_mem _ (List.mem_cons_of_mem _ (List.mem_cons_of_mem _ (List.mem_cons_of_mem _ (List.mem_cons_of_mem _ (List.mem_cons_of_mem _ (List.mem_cons_of_mem _ (List.mem_cons_of_mem _ (List.mem_cons_of_mem _ (List.mem_cons_of_mem _ (List.mem_cons_of_mem _ (List.mem_cons_of_mem _ (List.mem_cons_of_mem _ (List.mem_cons_of_mem _ (List.mem_cons_of_mem _ (List.mem_cons_of_mem _ (List.mem_cons_of_mem _ (List.mem_cons_of_mem _ List.mem_cons_self)))))))))))))))))))))) List.mem_cons_self
  have hI : BrEnv W E := ⟨hE, Tryd.laysM219.s1_3 W hSh⟩
  clear hA0 hval0 hsz hsz0
  refine (brturns_any readDoes E x fl W hI hTy.ty).mono fun e W' ⟨he, bel⟩ => ?_
  subst he
  exact ⟨_, rfl, _, _, _, [], _, [], hW', trodAll_mk1 (shut_bool Tryd.underlying4 _),
    (trodAll_cons_mk (Below.trod Tryd.laidOut (by kernel_rfl) (of_decide_eq_true (by kernel_rfl)) h0 bel lt0) (trodAll_cons_mk (Below.trod Tryd.laidOut (by kernel_rfl) (of_decide_eq_true (by kernel_rfl)) h1 bel lt1) trodAll_mk0)), rfl, bel.frame _, fun h => by cases h⟩
theorem reads (os : Os) {H : Type} (enc : TypeId × Value → H) : ∃ places, DataW.whole enc Tryd.prog ((World.doorLaid Tryd.prog 3000 os).forCall (fun _ _ => 0) ⟨#[], #[.string ⟨#[]⟩, .int .i64 0], []⟩).memory Tryd.f5.params.toList Rows.bracketTurnsSpec.vars false (#[.string ⟨#[]⟩, .int .i64 0] : Array Value).toList 8 = some ([.lit (.string []), .lit (.int .i64 0)], [], places) :=
  ⟨[], by kernel_rfl⟩
set_option maxRecDepth 100000 in
theorem lifted (os : Os) (started : os.Started) (H : Type) (enc : TypeId × Value → H) (F : Stop.Interp) :
    ReturnsInHanded {} Tryd.checked os 5 .any ((OpenSpec.ofChange Rows.bracketTurnsSpec).preRow enc Tryd.prog Tryd.f5 Rows.bracketTurnsRow.domain false Rows.bracketTurnsRow.laid) (((OpenSpec.ofChange Rows.bracketTurnsSpec).at F).post enc Tryd.prog Tryd.f5 false true false false) := by
  obtain ⟨places, hx⟩ := reads os enc
  refine returnsInHanded_of_row (C := Tryd.checked) (s := (OpenSpec.ofChange Rows.bracketTurnsSpec)) Tryd.own started (by kernel_rfl) Tryd.func5
    (witness_row_atRef (enc := enc) (C := Tryd.checked) false (World.doorLaid Tryd.prog 3000 os) #[.string ⟨#[]⟩, .int .i64 0] rfl (by kernel_rfl) (by kernel_rfl) (by kernel_rfl)
      (OpenSpec.preRow_of_cond 8 hx (by kernel_rfl) (fun k hk => by cases hk) (by kernel_rfl) (laidMetH_of_parts3 (fuel := 8) (laidMet_of_run' 8 (by kernel_rfl) (by kernel_rfl)) (by kernel_rfl) (by kernel_rfl)))) ?_
  intro W base args ds gs before hval hW _ hcond hsz hL hSh _
  exact contract H enc W base args ds gs before hval hW hsz hL hSh
theorem over : Rows.BracketTurnsSaid :=
  OpenClaim.holds_of_cond 5 Tryd.f5 rfl rfl rfl rfl rfl rfl rfl ⟨rfl, rfl, rfl, rfl, rfl⟩ rfl rfl rfl rfl rfl (by kernel_rfl) Tryd.func5 (by kernel_rfl)
    (of_decide_eq_true (by kernel_rfl)) (by unfold Func.isWrapper; first | (rw [if_pos (by decide +kernel)]; kernel_rfl) | (rw [if_neg (by decide +kernel)]; exact ⟨rfl, rfl⟩))
    (fun os started H enc _ F => by rw [OpenClaim.pre_eq_preRow]; exact lifted os started H enc F)
theorem proved : Rows.BracketTurnsCardSaid :=
  Claim7.holds_tied_plain_at .later [] [.handle, .sentinel, .sentinel, .sentinel, .sentinel, .sentinel, .sentinel, .sentinel, .sentinel, .sentinel, .sentinel, .sentinel, .sentinel, .sentinel, .sentinel, .sentinel, .sentinel, .sentinel, .sentinel, .sentinel, .sentinel, .sentinel] true Rows.bracketTurnsCard.stood.harness true
    over (fun _ h => by cases h) (by kernel_rfl) (fun _ h => by cases h) bracketTurns_row_tie rfl ⟨rfl, rfl⟩ (by kernel_rfl) rfl
    (fun f fn hf hfn => by
      obtain rfl : f = 5 := Option.some.inj ((show Tryd.prog.funcNamed "trawl/trawllaw05.BracketTurns" = some 5 by kernel_rfl).symm.trans hf) |>.symm
      obtain rfl : fn = Tryd.f5 := (Option.some.inj (Tryd.func5.symm.trans hfn)).symm
      exact ⟨by kernel_rfl, fun j t ht => by
        rw [Tryd.params5] at ht
        have hm : t ∈ ([9, 3] : List Nat) := by simpa using Array.mem_of_getElem? ht
        have hall : (([9, 3] : List Nat).all fun u => !Tryd.prog.wantsStandIn u) = true := by kernel_rfl
        exact (show Tryd.prog.wantsStandIn t = false by simpa using List.all_eq_true.1 hall t hm)⟩)
    (by kernel_rfl)
end Go.Proofs.YtbpecijdmhablaaDoor.bracketTurns
