/- Bracket expressions: what is read of a text, item by item. Plain facts: nothing of the program. -/
import Derived.Test.YtlbhbjmobcikfaaGreatDoorClDef
namespace Go.Proofs.YtlbhbjmobcikfaaGreatDoor
namespace Br
/-- What an item, or a whole expression, answers: a set and the place behind; or an error's number and its place. -/
inductive Ans
  | ok (P : Nat → Bool) (next : Nat)
  | err (c : Nat) (p : Int)
def dotted (f : Nat → Nat) (i : Nat) : Bool := f i == 91 && (f (i + 1) == 46 || f (i + 1) == 61)
def colon (f : Nat → Nat) (i : Nat) : Bool := f i == 91 && f (i + 1) == 58
/-- The next ':]' among the k places from i on. -/
def clos (f : Nat → Nat) : Nat → Nat → Option Nat
  | 0, _ => none
  | k + 1, i => if f i == 58 && f (i + 1) == 93 then some i else clos f k (i + 1)
/-- The class that has this name. -/
def clsAt (l : List Nat) : Option Nat := (List.range 12).find? fun k => (Cl.nl k).map (·.toNat) == l
/-- m bytes from i on. -/
def part (f : Nat → Nat) (i m : Nat) : List Nat := (List.range m).map fun j => f (i + j)
def rng (lo hi : Nat) : Nat → Bool := fun b => decide (lo ≤ b) && decide (b ≤ hi)
def isRange (f : Nat → Nat) (n i : Nat) : Bool := f (i + 1) == 45 && decide (i + 2 < n) && f (i + 2) != 93
def named (f : Nat → Nat) (i e : Nat) : Ans :=
  match clsAt (part f (i + 2) (e - (i + 2))) with
  | none => .err 6 i
  | some k => .ok (Cl.cls k) (e + 2)
def classed (f : Nat → Nat) (n i a : Nat) : Ans :=
  match clos f (n - (i + 3)) (i + 2) with
  | none => .err 1 a
  | some e => named f i e
def ranged (f : Nat → Nat) (i : Nat) : Ans :=
  if dotted f (i + 2) then .err 7 ((i : Int) + 2)
  else if colon f (i + 2) || decide (f (i + 2) < f i) then .err 5 i
  else .ok (rng (f i) (f (i + 2))) (i + 3)
/-- One item that begins at i. -/
def item (f : Nat → Nat) (n i a : Nat) : Ans :=
  if dotted f i then .err 7 i
  else if colon f i then classed f n i a
  else if isRange f n i then ranged f i
  else .ok (fun b => b == f i) (i + 1)
/-- The items from i on. -/
def items (f : Nat → Nat) (n a : Nat) : Nat → Nat → (Nat → Bool) → Bool → Ans
  | 0, _, _, _ => .err 1 a
  | k + 1, i, P, b =>
    if b && f i == 93 then .ok P i
    else if n ≤ i then .err 1 a
    else match item f n i a with
      | .err c p => .err c p
      | .ok Q j => items f n a k j (fun x => P x || Q x) true
/-- The set at the end. -/
def fin (ic nl t : Bool) (P : Nat → Bool) : Nat → Bool :=
  let Q := if ic then Cl.fold P else P
  if t then (if nl then fun b => !Q b && !(b == 10) else fun b => !Q b) else Q
/-- What follows of the items. -/
def ends (ic nl t : Bool) : Ans → Ans
  | .err c p => .err c p
  | .ok P j => .ok (fin ic nl t P) (j + 1)
def whole (f : Nat → Nat) (n a : Nat) (ic nl : Bool) : Ans :=
  let t := f (a + 1) == 94
  ends ic nl t (items f n a (n + 1) (if t then a + 2 else a + 1) (fun _ => false) false)
/-- What is read of a text of n bytes at a place. -/
def read (f : Nat → Nat) (n : Nat) (at_ : Int) (ic nl : Bool) : Ans :=
  if 0 ≤ at_ ∧ f at_.toNat = 91 then whole f n at_.toNat ic nl else .err 15 (-1)
/-- A text of n bytes. -/
def Txt (f : Nat → Nat) (n : Nat) : Prop := (∀ i, i < n → f i < 256) ∧ ∀ i, n ≤ i → f i = 256

theorem Txt.lt {f : Nat → Nat} {n i c : Nat} (h : Txt f n) (hc : f i = c) (hl : c < 256) : i < n := by
  by_cases hi : i < n
  · exact hi
  · have := h.2 i (by omega); omega
theorem clos_some {f : Nat → Nat} : ∀ {k i e : Nat}, clos f k i = some e → i ≤ e ∧ e < i + k ∧ f e = 58 ∧ f (e + 1) = 93 ∧ ∀ j, i ≤ j → j < e → ¬ (f j = 58 ∧ f (j + 1) = 93)
  | 0, _, _, h => by cases h
  | k + 1, i, e, h => by
    unfold clos at h
    split at h
    · rename_i hc
      simp only [Bool.and_eq_true, beq_iff_eq] at hc
      cases h; exact ⟨Nat.le_refl _, by omega, hc.1, hc.2, fun j h1 h2 => by omega⟩
    · rename_i hc
      simp only [Bool.and_eq_true, beq_iff_eq] at hc
      obtain ⟨h1, h2, h3, h4, h5⟩ := clos_some h
      refine ⟨by omega, by omega, h3, h4, fun j hj hje => ?_⟩
      by_cases e1 : j = i
      · subst e1; exact hc
      · exact h5 j (by omega) hje
theorem clos_intro {f : Nat → Nat} : ∀ {k i e : Nat}, i ≤ e → e < i + k → f e = 58 → f (e + 1) = 93 → (∀ j, i ≤ j → j < e → ¬ (f j = 58 ∧ f (j + 1) = 93)) → clos f k i = some e
  | 0, _, _, h1, h2, _, _, _ => by omega
  | k + 1, i, e, h1, h2, h3, h4, h5 => by
    unfold clos
    by_cases e1 : i = e
    · subst e1; simp [h3, h4]
    · have := h5 i (Nat.le_refl _) (by omega)
      rw [if_neg (by simpa using this)]
      exact clos_intro (by omega) (by omega) h3 h4 fun j hj => h5 j (by omega)
theorem clos_none {f : Nat → Nat} : ∀ {k i : Nat}, (∀ j, i ≤ j → j < i + k → ¬ (f j = 58 ∧ f (j + 1) = 93)) → clos f k i = none
  | 0, _, _ => rfl
  | k + 1, i, h => by
    unfold clos
    rw [if_neg (by simpa using h i (Nat.le_refl _) (by omega))]
    exact clos_none fun j hj hk => h j (by omega) (by omega)
/-- An item's answer lies behind it. -/
theorem item_next {f : Nat → Nat} {n i a j : Nat} {Q : Nat → Bool} (hi : i < n) (h : item f n i a = .ok Q j) : i < j ∧ j ≤ n := by
  unfold item at h
  split at h
  · cases h
  split at h
  · unfold classed at h
    split at h
    · cases h
    · rename_i e he
      obtain ⟨h1, h2, -⟩ := clos_some he
      unfold named at h
      split at h
      · cases h
      · cases h; omega
  split at h
  · rename_i hr
    unfold isRange at hr
    simp only [Bool.and_eq_true, decide_eq_true_eq] at hr
    unfold ranged at h
    split at h
    · cases h
    split at h
    · cases h
    · cases h; omega
  · cases h; omega
theorem item_err {f : Nat → Nat} {n i a c : Nat} {p : Int} (h : item f n i a = .err c p) : (c = 1 ∧ p = a) ∨ c = 5 ∨ c = 6 ∨ c = 7 := by
  unfold item at h
  split at h
  · cases h; exact .inr (.inr (.inr rfl))
  split at h
  · unfold classed at h
    split at h
    · cases h; exact .inl ⟨rfl, rfl⟩
    · unfold named at h
      split at h
      · cases h; exact .inr (.inr (.inl rfl))
      · cases h
  split at h
  · unfold ranged at h
    split at h
    · cases h; exact .inr (.inr (.inr rfl))
    split at h
    · cases h; exact .inr (.inl rfl)
    · cases h
  · cases h
theorem items_ok {f : Nat → Nat} {n a : Nat} (hf : Txt f n) : ∀ {k i j : Nat} {P Q : Nat → Bool} {b : Bool}, i ≤ n → items f n a k i P b = .ok Q j → f j = 93 ∧ j < n ∧ (if b then i ≤ j else i < j) ∧ (∀ x, P x = true → Q x = true)
  | 0, _, _, _, _, _, _, h => by cases h
  | k + 1, i, j, P, Q, b, hi, h => by
    unfold items at h
    split at h
    · rename_i hc
      simp only [Bool.and_eq_true, beq_iff_eq] at hc
      cases h
      exact ⟨hc.2, hf.lt hc.2 (by omega), by rw [hc.1]; exact Nat.le_refl _, fun _ h => h⟩
    split at h
    · cases h
    split at h
    · cases h
    · rename_i Q' j' he
      obtain ⟨h1, h2⟩ := item_next (by omega) he
      obtain ⟨g1, g2, g3, g4⟩ := items_ok hf h2 h
      refine ⟨g1, g2, ?_, fun x hx => g4 x (by rw [hx]; rfl)⟩
      simp only [if_true] at g3
      split <;> omega
theorem items_err {f : Nat → Nat} {n a c : Nat} {p : Int} : ∀ {k i : Nat} {P : Nat → Bool} {b : Bool}, items f n a k i P b = .err c p → (c = 1 ∧ p = a) ∨ c = 5 ∨ c = 6 ∨ c = 7
  | 0, _, _, _, h => by cases h; exact .inl ⟨rfl, rfl⟩
  | k + 1, i, P, b, h => by
    unfold items at h
    split at h
    · cases h
    split at h
    · cases h; exact .inl ⟨rfl, rfl⟩
    split at h
    · rename_i he
      cases h; exact item_err he
    · exact items_err h
/-- The same answer, s places on; a missing bracket is told at a'. -/
def sh (s : Nat) (a' : Nat) : Ans → Ans
  | .ok P j => .ok P (j + s)
  | .err c p => if c = 1 then .err 1 a' else .err c (p + s)
theorem dotted_sh {f g : Nat → Nat} {s i : Nat} (h0 : g (i + s) = f i) (h1 : g (i + 1 + s) = f (i + 1)) : dotted g (i + s) = dotted f i := by
  unfold dotted; rw [h0, show i + s + 1 = i + 1 + s by omega, h1]
theorem colon_sh {f g : Nat → Nat} {s i : Nat} (h0 : g (i + s) = f i) (h1 : g (i + 1 + s) = f (i + 1)) : colon g (i + s) = colon f i := by
  unfold colon; rw [h0, show i + s + 1 = i + 1 + s by omega, h1]
theorem part_sh {f g : Nat → Nat} {s i m : Nat} (h : ∀ j, j < m → g (i + j + s) = f (i + j)) : part g (i + s) m = part f i m := by
  unfold part
  apply List.map_congr_left
  intro j hj
  have := h j (by simpa using hj)
  rw [← this]; congr 1; omega
theorem clos_sh {f g : Nat → Nat} {s : Nat} : ∀ {k i : Nat}, (∀ j, i ≤ j → g (j + s) = f j) → clos g k (i + s) = (clos f k i).map (· + s)
  | 0, _, _ => rfl
  | k + 1, i, h => by
    unfold clos
    rw [h i (Nat.le_refl _), show i + s + 1 = i + 1 + s by omega, h (i + 1) (by omega)]
    split
    · rfl
    · exact clos_sh fun j hj => h j (by omega)
theorem item_sh {f g : Nat → Nat} {n s i a a' : Nat} (h : ∀ j, i ≤ j → g (j + s) = f j) : item g (n + s) (i + s) a' = sh s a' (item f n i a) := by
  have hd := dotted_sh (h i (by omega)) (h (i + 1) (by omega))
  have hc := colon_sh (h i (by omega)) (h (i + 1) (by omega))
  have hd2 := dotted_sh (h (i + 2) (by omega)) (h (i + 2 + 1) (by omega))
  have hc2 := colon_sh (h (i + 2) (by omega)) (h (i + 2 + 1) (by omega))
  have hr : isRange g (n + s) (i + s) = isRange f n i := by
    unfold isRange
    rw [show i + s + 1 = i + 1 + s by omega, h (i + 1) (by omega), show i + s + 2 = i + 2 + s by omega, h (i + 2) (by omega)]
    congr 2
    simp
  unfold item
  rw [hd, hc, hr]
  split
  · simp [sh]
  split
  · unfold classed
    rw [show n + s - (i + s + 3) = n - (i + 3) by omega, show i + s + 2 = i + 2 + s by omega, clos_sh (fun j hj => h j (by omega))]
    cases he : clos f (n - (i + 3)) (i + 2) with
    | none => simp [sh]
    | some e =>
      obtain ⟨h1, -⟩ := clos_some he
      show named g (i + s) (e + s) = sh s a' (named f i e)
      unfold named
      rw [show e + s - (i + s + 2) = e - (i + 2) by omega, show i + s + 2 = i + 2 + s by omega, part_sh (fun j _ => h (i + 2 + j) (by omega))]
      split
      · simp [sh]
      · simp [sh]; omega
  split
  · unfold ranged
    rw [show i + s + 2 = i + 2 + s by omega, hd2, hc2, h (i + 2) (by omega), h i (by omega)]
    split
    · simp [sh]; omega
    split
    · simp [sh]
    · simp [sh]; omega
  · rw [h i (by omega)]; simp [sh]; omega
theorem items_sh {f g : Nat → Nat} {n s a a' : Nat} : ∀ {k i : Nat} {P : Nat → Bool} {b : Bool}, (∀ j, i ≤ j → g (j + s) = f j) → (∀ j, i ≤ j → j < n → ∀ Q j', item f n j a = .ok Q j' → j ≤ j') → items g (n + s) a' k (i + s) P b = sh s a' (items f n a k i P b)
  | 0, _, _, _, _, _ => by simp [items, sh]
  | k + 1, i, P, b, h, hn => by
    unfold items
    rw [h i (Nat.le_refl _), item_sh (a := a) h]
    split
    · rfl
    by_cases hi : n ≤ i
    · rw [if_pos hi, if_pos (by omega)]; simp [sh]
    · rw [if_neg hi, if_neg (by omega)]
      cases he : item f n i a with
      | err c p =>
        by_cases hc : c = 1
        · subst hc
          simp [sh]
        · simp [sh, hc]
      | ok Q j =>
        have := hn i (Nat.le_refl _) (by omega) Q j he
        exact items_sh (fun x hx => h x (by omega)) fun x hx => hn x (by omega)
/-- The turned expression of the same items. -/
theorem items_turned {f g : Nat → Nat} {n k : Nat} {P : Nat → Bool} {b : Bool} (h : ∀ j, 1 ≤ j → g (j + 1) = f j) : items g (n + 1) 0 k 2 P b = sh 1 0 (items f n 0 k 1 P b) :=
  items_sh h fun _ _ hj _ _ he => Nat.le_of_lt (item_next hj he).1
end Br
end Go.Proofs.YtlbhbjmobcikfaaGreatDoor
