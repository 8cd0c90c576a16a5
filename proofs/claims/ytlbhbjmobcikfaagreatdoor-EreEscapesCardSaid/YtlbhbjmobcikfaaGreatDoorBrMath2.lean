/- Bracket expressions: what stands ahead and behind. Plain facts: nothing of the program. -/
import Derived.Test.YtlbhbjmobcikfaaGreatDoorBrMath
namespace Go.Proofs.YtlbhbjmobcikfaaGreatDoor
namespace Br
/-- Text f of n bytes stands in text g of N bytes, s places on. -/
structure Within (f g : Nat → Nat) (n N s : Nat) : Prop where
  fit : n + s ≤ N
  same : ∀ j, j < n → g (j + s) = f j
/-- A range at the end of f whose second byte, a '[', goes on behind it. -/
def Open (f g : Nat → Nat) (n s : Nat) : Prop := f (n - 1) = 91 ∧ (g (n + s) = 46 ∨ g (n + s) = 61)
theorem isRange_in {f g : Nat → Nat} {n N s i : Nat} (hw : Within f g n N s) (h : isRange f n i = true) : isRange g N (i + s) = true := by
  unfold isRange at h ⊢
  simp only [Bool.and_eq_true, beq_iff_eq, bne_iff_ne, ne_eq, decide_eq_true_eq] at h ⊢
  have h1 := hw.same (i + 1) (by omega)
  have h2 := hw.same (i + 2) (by omega)
  have := hw.fit
  rw [show i + s + 1 = i + 1 + s by omega, show i + s + 2 = i + 2 + s by omega, h1, h2]
  exact ⟨⟨h.1.1, by omega⟩, h.2⟩
theorem isRange_out {f g : Nat → Nat} {n N s i : Nat} (hw : Within f g n N s) (hi : i + 1 < n) (hno : ¬ (i + 2 = n ∧ f (i + 1) = 45)) (h : isRange f n i = false) : isRange g N (i + s) = false := by
  have h1 := hw.same (i + 1) (by omega)
  unfold isRange at h ⊢
  rw [show i + s + 1 = i + 1 + s by omega, show i + s + 2 = i + 2 + s by omega, h1]
  by_cases h45 : f (i + 1) = 45
  · have hin : i + 2 < n := by omega
    rw [hw.same (i + 2) hin]
    rw [h45] at h ⊢
    have hd : decide (i + 2 < n) = true := by simpa using hin
    rw [hd] at h
    simp only [BEq.rfl, Bool.true_and] at h
    rw [h]; simp
  · have : (f (i + 1) == 45) = false := by simpa using h45
    rw [this]; simp
/-- What an item answers ahead of the end of f stays. -/
theorem item_ok_in {f g : Nat → Nat} {n N s i a a' j : Nat} {Q : Nat → Bool} (hf : Txt f n) (hw : Within f g n N s) (hi : i < n) (h : item f n i a = .ok Q j) (hj : j < n) (hno : ¬ (i + 2 = n ∧ f (i + 1) = 45)) : item g N (i + s) a' = .ok Q (j + s) := by
  have hn := item_next hi h
  have hfit := hw.fit
  have hd : dotted g (i + s) = dotted f i := dotted_sh (hw.same i hi) (hw.same (i + 1) (by omega))
  have hc : colon g (i + s) = colon f i := colon_sh (hw.same i hi) (hw.same (i + 1) (by omega))
  unfold item at h ⊢
  rw [hd, hc]
  split at h
  · cases h
  · rename_i hdf
    rw [if_neg hdf]
    split at h
    · rename_i hcf
      rw [if_pos hcf]
      unfold classed at h ⊢
      split at h
      · cases h
      · rename_i e he
        obtain ⟨e1, e2, e3, e4, e5⟩ := clos_some he
        have hen : e + 1 < n := hf.lt e4 (by omega)
        have hg : clos g (N - (i + s + 3)) (i + s + 2) = some (e + s) := by
          refine clos_intro (by omega) (by omega) ?_ ?_ ?_
          · rw [hw.same e (by omega)]; exact e3
          · rw [show e + s + 1 = e + 1 + s by omega, hw.same (e + 1) hen]; exact e4
          · intro x hx hxe
            have := e5 (x - s) (by omega) (by omega)
            rw [← hw.same (x - s) (by omega), ← hw.same (x - s + 1) (by omega), show x - s + s = x by omega, show x - s + 1 + s = x + 1 by omega] at this
            exact this
        rw [hg]
        unfold named at h ⊢
        simp only
        rw [show e + s - (i + s + 2) = e - (i + 2) by omega, show i + s + 2 = i + 2 + s by omega, part_sh (fun x hx => hw.same (i + 2 + x) (by omega))]
        split at h
        · cases h
        · cases h
          show Ans.ok _ _ = Ans.ok _ _
          congr 1; omega
    · rename_i hcf
      rw [if_neg hcf]
      split at h
      · rename_i hr
        rw [if_pos (isRange_in hw hr)]
        unfold ranged at h ⊢
        have hin : i + 2 < n := by unfold isRange at hr; simp only [Bool.and_eq_true, decide_eq_true_eq] at hr; exact hr.1.2
        split at h
        · cases h
        rename_i hd2
        split at h
        · cases h
        rename_i hc2
        cases h
        rw [show i + s + 2 = i + 2 + s by omega, dotted_sh (hw.same (i + 2) (by omega)) (hw.same (i + 2 + 1) (by omega)), if_neg hd2, colon_sh (hw.same (i + 2) (by omega)) (hw.same (i + 2 + 1) (by omega)), hw.same (i + 2) (by omega), hw.same i (by omega), if_neg hc2]
        congr 1; omega
      · rename_i hr
        cases h
        rw [if_neg (by rw [isRange_out hw hj hno (by simpa using hr)]; simp), hw.same i hi]
        congr 1; omega
/-- A fault, but for a missing bracket, stays; or it is a range that goes on behind the end of f. -/
theorem item_err_in {f g : Nat → Nat} {n N s i a a' c : Nat} {p : Int} (hf : Txt f n) (hw : Within f g n N s) (hi : i < n) (h : item f n i a = .err c p) (h1 : c ≠ 1) :
    (c = 5 ∧ p = i ∧ i + 3 = n ∧ Open f g n s ∧ item g N (i + s) a' = .err 7 ((n : Int) - 1 + s)) ∨ (¬ (c = 5 ∧ p = i ∧ i + 3 = n ∧ Open f g n s) ∧ item g N (i + s) a' = .err c (p + s)) := by
  have hfit := hw.fit
  unfold item at h
  split at h
  · rename_i hdf
    cases h
    refine .inr ⟨by omega, ?_⟩
    have h2 : i + 1 < n := by
      unfold dotted at hdf; simp only [Bool.and_eq_true, Bool.or_eq_true, beq_iff_eq] at hdf
      rcases hdf.2 with h | h <;> exact hf.lt h (by omega)
    unfold item
    rw [dotted_sh (hw.same i hi) (hw.same (i + 1) h2), if_pos hdf]
    simp
  rename_i hdf
  split at h
  · rename_i hcf
    have h2 : i + 1 < n := by
      unfold colon at hcf; simp only [Bool.and_eq_true, beq_iff_eq] at hcf
      exact hf.lt hcf.2 (by omega)
    unfold item
    rw [dotted_sh (hw.same i hi) (hw.same (i + 1) h2), if_neg hdf, colon_sh (hw.same i hi) (hw.same (i + 1) h2), if_pos hcf]
    unfold classed at h ⊢
    split at h
    · cases h; exact absurd rfl h1
    · rename_i e he
      obtain ⟨e1, e2, e3, e4, e5⟩ := clos_some he
      have hen : e + 1 < n := hf.lt e4 (by omega)
      have hg : clos g (N - (i + s + 3)) (i + s + 2) = some (e + s) := by
        refine clos_intro (by omega) (by omega) ?_ ?_ ?_
        · rw [hw.same e (by omega)]; exact e3
        · rw [show e + s + 1 = e + 1 + s by omega, hw.same (e + 1) hen]; exact e4
        · intro x hx hxe
          have := e5 (x - s) (by omega) (by omega)
          rw [← hw.same (x - s) (by omega), ← hw.same (x - s + 1) (by omega), show x - s + s = x by omega, show x - s + 1 + s = x + 1 by omega] at this
          exact this
      rw [hg]
      unfold named at h ⊢
      simp only
      rw [show e + s - (i + s + 2) = e - (i + 2) by omega, show i + s + 2 = i + 2 + s by omega, part_sh (fun x hx => hw.same (i + 2 + x) (by omega))]
      split at h
      · cases h
        exact .inr ⟨by omega, by simp⟩
      · cases h
  rename_i hcf
  split at h
  · rename_i hr
    have hin : i + 2 < n := by unfold isRange at hr; simp only [Bool.and_eq_true, decide_eq_true_eq] at hr; exact hr.1.2
    unfold item
    rw [dotted_sh (hw.same i hi) (hw.same (i + 1) (by omega)), if_neg hdf, colon_sh (hw.same i hi) (hw.same (i + 1) (by omega)), if_neg hcf, if_pos (isRange_in hw hr)]
    unfold ranged at h ⊢
    rw [show i + s + 2 = i + 2 + s by omega, hw.same (i + 2) hin, hw.same i hi]
    split at h
    · rename_i hd2
      cases h
      refine .inr ⟨by omega, ?_⟩
      have h3 : i + 2 + 1 < n := by
        unfold dotted at hd2; simp only [Bool.and_eq_true, Bool.or_eq_true, beq_iff_eq] at hd2
        rcases hd2.2 with h | h <;> exact hf.lt h (by omega)
      rw [dotted_sh (hw.same (i + 2) (by omega)) (hw.same (i + 2 + 1) (by omega)), if_pos hd2]
      congr 1; push_cast; omega
    rename_i hd2
    split at h
    · rename_i hc2
      cases h
      by_cases h3 : i + 2 + 1 < n
      · refine .inr ⟨by omega, ?_⟩
        rw [dotted_sh (hw.same (i + 2) (by omega)) (hw.same (i + 2 + 1) (by omega)), if_neg hd2, colon_sh (hw.same (i + 2) (by omega)) (hw.same (i + 2 + 1) (by omega)), if_pos hc2]
        congr 1
      · have hn : i + 3 = n := by omega
        have hlt : decide (f (i + 2) < f i) = true := by
          have : colon f (i + 2) = false := by
            unfold colon; rw [hf.2 (i + 2 + 1) (by omega)]; simp
          rw [this] at hc2; simpa using hc2
        by_cases ho : Open f g n s
        · refine .inl ⟨rfl, rfl, hn, ho, ?_⟩
          obtain ⟨o1, o2⟩ := ho
          have hdg : dotted g (i + 2 + s) = true := by
            unfold dotted
            rw [hw.same (i + 2) hin, show i + 2 = n - 1 by omega, o1, show n - 1 + s + 1 = n + s by omega]
            rcases o2 with h | h <;> rw [h] <;> rfl
          rw [if_pos hdg]
          congr 1; push_cast; omega
        · refine .inr ⟨fun h => ho h.2.2.2, ?_⟩
          have hdg : dotted g (i + 2 + s) = false := by
            unfold dotted
            rw [hw.same (i + 2) hin]
            by_cases h91 : f (i + 2) = 91
            · have hx : ¬ (g (n + s) = 46 ∨ g (n + s) = 61) := fun hx => ho ⟨by rw [show n - 1 = i + 2 by omega]; exact h91, hx⟩
              rw [show i + 2 + s + 1 = n + s by omega]
              simp only [not_or] at hx
              simp [hx.1, hx.2]
            · simp [h91]
          rw [if_neg (by rw [hdg]; simp), if_pos (by rw [hlt]; simp)]
          congr 1
    · cases h
  · cases h
theorem item_err5 {f : Nat → Nat} {n i a : Nat} {p : Int} (he : item f n i a = .err 5 p) : p = i := by
  unfold item at he
  split at he
  · cases he
  split at he
  · unfold classed at he; split at he
    · cases he
    · unfold named at he; split at he <;> cases he
  split at he
  · unfold ranged at he
    split at he
    · cases he
    split at he
    · simp only [Ans.err.injEq] at he; exact he.2.symm
    · cases he
  · cases he
/-- All items: what is read ahead of the end of f stays, but for a missing bracket. -/
theorem items_in {f g : Nat → Nat} {n N s a a' : Nat} (hf : Txt f n) (hw : Within f g n N s) : ∀ {k k' i : Nat} {P : Nat → Bool} {b : Bool}, i ≤ n → k ≤ k' → (∀ p, items f n a k i P b ≠ .err 1 p) →
    (∃ i', i' + 3 = n ∧ items f n a k i P b = .err 5 i' ∧ Open f g n s ∧ items g N a' k' (i + s) P b = .err 7 ((n : Int) - 1 + s)) ∨
    ((∀ i', i' + 3 = n → items f n a k i P b = .err 5 (i' : Nat) → ¬ Open f g n s) ∧ items g N a' k' (i + s) P b = sh s a' (items f n a k i P b))
  | 0, _, _, _, _, _, _, h => absurd rfl (h _)
  | k + 1, 0, _, _, _, _, hk, _ => by omega
  | k + 1, k' + 1, i, P, b, hi, hk, h => by
    have hfit := hw.fit
    by_cases hend : i = n
    · exfalso
      unfold items at h
      subst hend
      rw [if_neg (by rw [hf.2 i (Nat.le_refl _)]; simp), if_pos (Nat.le_refl _)] at h
      exact h _ rfl
    have hin : i < n := by omega
    have hfi : ¬ n ≤ i := by omega
    have hgi : ¬ N ≤ i + s := by omega
    unfold items at h ⊢
    rw [hw.same i hin]
    by_cases hb : (b && f i == 93) = true
    · rw [if_pos hb, if_pos hb]
      exact .inr ⟨fun _ _ h => (by cases h), rfl⟩
    rw [if_neg hb, if_neg hfi] at h
    rw [if_neg hb, if_neg hb, if_neg hfi, if_neg hgi]
    cases he : item f n i a with
    | err c p =>
      rw [he] at h
      have hc1 : c ≠ 1 := fun hc => h p (by rw [hc])
      rcases item_err_in (a' := a') hf hw hin he hc1 with ⟨rfl, rfl, h3, ho, hg⟩ | ⟨hno, hg⟩
      · rw [hg]; exact .inl ⟨i, h3, rfl, ho, rfl⟩
      · rw [hg]
        refine .inr ⟨fun i' h3 h5 ho => ?_, by simp [sh, hc1]⟩
        simp only [Ans.err.injEq] at h5
        obtain ⟨rfl, rfl⟩ := h5
        have := item_err5 he
        exact hno ⟨rfl, this, by omega, ho⟩
    | ok Q j =>
      rw [he] at h
      obtain ⟨n1, n2⟩ := item_next hin he
      have hj : j < n := by
        by_cases hj : j = n
        · exfalso
          subst hj
          cases k with
          | zero => exact h _ rfl
          | succ k =>
            simp only at h
            unfold items at h
            rw [if_neg (by rw [hf.2 j (Nat.le_refl _)]; simp), if_pos (Nat.le_refl _)] at h
            exact h _ rfl
        · omega
      have hno : ¬ (i + 2 = n ∧ f (i + 1) = 45) := by
        rintro ⟨q1, q2⟩
        obtain rfl : j = i + 1 := by omega
        cases k with
        | zero => exact h _ rfl
        | succ k =>
          simp only at h
          unfold items at h
          have hit : item f n (i + 1) a = .ok (fun x => x == f (i + 1)) (i + 1 + 1) := by
            unfold item
            have d1 : dotted f (i + 1) = false := by unfold dotted; rw [q2]; rfl
            have d2 : colon f (i + 1) = false := by unfold colon; rw [q2]; rfl
            have d3 : isRange f n (i + 1) = false := by
              unfold isRange
              rw [show decide (i + 1 + 2 < n) = false by simp; omega]; simp
            rw [d1, d2, d3]; rfl
          rw [if_neg (by rw [q2]; simp), if_neg (by omega), hit] at h
          simp only at h
          cases k with
          | zero => exact h _ rfl
          | succ k =>
            unfold items at h
            rw [if_neg (by rw [hf.2 (i + 1 + 1) (by omega)]; simp), if_pos (by omega)] at h
            exact h _ rfl
      rw [item_ok_in (a' := a') hf hw hin he hj hno]
      exact items_in hf hw n2 (by omega) h
end Br
end Go.Proofs.YtlbhbjmobcikfaaGreatDoor
