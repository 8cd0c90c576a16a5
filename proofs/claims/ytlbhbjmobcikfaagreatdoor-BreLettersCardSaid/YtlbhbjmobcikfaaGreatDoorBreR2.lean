/- Part 2 of what these proofs need. -/
import Derived.Deep.Cut
import Derived.Test.YtlbhbjmobcikfaaGreatDoorChecked
import Derived.LaidEql
import Derived.Stop.Asserts
import Derived.Stop.IfaceNil
import Derived.RowKitTokens
import Derived.Deep.LoopGhost
import Derived.ProofKit
import Derived.LaidMore
import Derived.LaidHandle
import Derived.OpenShut
import Derived.MakeChecks
import Derived.Stop.LaidErr
import Derived.Shelf.Small.Strs
import Derived.Shelf.Small.Wraps
import Derived.Shelf.Strings.Search1
import Derived.Shelf.Strings.Search2
import Derived.Shelf.Strings.Cut
import Derived.Shelf.LaysM
import Derived.Shelf.Strings.Shaped
import Derived.Shelf.Strings.Prefix
import Derived.Test.YtlbhbjmobcikfaaGreatDoorProg
import Derived.Lib.CutLaws
import Derived.Test.YtlbhbjmobcikfaaGreatDoorBreR1
/- The names of the classes: what Named of class and of its reference answer of each, and of any other text. -/
namespace Go.Proofs.YtlbhbjmobcikfaaGreatDoor
open Go.RowKit
/-- What both answer of a name: its class. -/
def Known (s : ByteArray) (k : Nat) : Prop := (∀ w, Calls Tryz.prog 159 #[.string s] w fun e w' => e = .returned (.tuple #[(.agg #[.int .u64 (Oc.U (Cl.cw k 0)), .int .u64 (Oc.U (Cl.cw k 1)), .int .u64 (Oc.U (Cl.cw k 2)), .int .u64 (Oc.U (Cl.cw k 3))]), .nilIface]) ∧ Below w.heap.size w w') ∧
  ∀ w, Calls Tryz.prog 106 #[.string s] w fun e w' => e = .returned (.tuple #[(.agg #[.int .u64 (Oc.U (Cl.cw k 0)), .int .u64 (Oc.U (Cl.cw k 1)), .int .u64 (Oc.U (Cl.cw k 2)), .int .u64 (Oc.U (Cl.cw k 3))]), .bool true]) ∧ Below w.heap.size w w'
theorem refnamed_0 (w : World) : Calls Tryz.prog 106 #[.string (Cl.nm 0)] w fun e w' => e = .returned (.tuple #[(.agg #[.int .u64 (Oc.U (Cl.cw 0 0)), .int .u64 (Oc.U (Cl.cw 0 1)), .int .u64 (Oc.U (Cl.cw 0 2)), .int .u64 (Oc.U (Cl.cw 0 3))]), .bool true]) ∧ Below w.heap.size w w' := by
  have h := refnamed_any (Cl.nm 0) (Cl.cls 0) (member_0) w
  rw [show Cl.any (Cl.cls 0) 256 = true by decide +kernel] at h
  exact h
theorem refnamed_1 (w : World) : Calls Tryz.prog 106 #[.string (Cl.nm 1)] w fun e w' => e = .returned (.tuple #[(.agg #[.int .u64 (Oc.U (Cl.cw 1 0)), .int .u64 (Oc.U (Cl.cw 1 1)), .int .u64 (Oc.U (Cl.cw 1 2)), .int .u64 (Oc.U (Cl.cw 1 3))]), .bool true]) ∧ Below w.heap.size w w' := by
  have h := refnamed_any (Cl.nm 1) (Cl.cls 1) (member_1) w
  rw [show Cl.any (Cl.cls 1) 256 = true by decide +kernel] at h
  exact h
theorem refnamed_2 (w : World) : Calls Tryz.prog 106 #[.string (Cl.nm 2)] w fun e w' => e = .returned (.tuple #[(.agg #[.int .u64 (Oc.U (Cl.cw 2 0)), .int .u64 (Oc.U (Cl.cw 2 1)), .int .u64 (Oc.U (Cl.cw 2 2)), .int .u64 (Oc.U (Cl.cw 2 3))]), .bool true]) ∧ Below w.heap.size w w' := by
  have h := refnamed_any (Cl.nm 2) (Cl.cls 2) (member_2) w
  rw [show Cl.any (Cl.cls 2) 256 = true by decide +kernel] at h
  exact h
theorem refnamed_3 (w : World) : Calls Tryz.prog 106 #[.string (Cl.nm 3)] w fun e w' => e = .returned (.tuple #[(.agg #[.int .u64 (Oc.U (Cl.cw 3 0)), .int .u64 (Oc.U (Cl.cw 3 1)), .int .u64 (Oc.U (Cl.cw 3 2)), .int .u64 (Oc.U (Cl.cw 3 3))]), .bool true]) ∧ Below w.heap.size w w' := by
  have h := refnamed_any (Cl.nm 3) (Cl.cls 3) (member_3) w
  rw [show Cl.any (Cl.cls 3) 256 = true by decide +kernel] at h
  exact h
theorem refnamed_4 (w : World) : Calls Tryz.prog 106 #[.string (Cl.nm 4)] w fun e w' => e = .returned (.tuple #[(.agg #[.int .u64 (Oc.U (Cl.cw 4 0)), .int .u64 (Oc.U (Cl.cw 4 1)), .int .u64 (Oc.U (Cl.cw 4 2)), .int .u64 (Oc.U (Cl.cw 4 3))]), .bool true]) ∧ Below w.heap.size w w' := by
  have h := refnamed_any (Cl.nm 4) (Cl.cls 4) (member_4) w
  rw [show Cl.any (Cl.cls 4) 256 = true by decide +kernel] at h
  exact h
theorem refnamed_5 (w : World) : Calls Tryz.prog 106 #[.string (Cl.nm 5)] w fun e w' => e = .returned (.tuple #[(.agg #[.int .u64 (Oc.U (Cl.cw 5 0)), .int .u64 (Oc.U (Cl.cw 5 1)), .int .u64 (Oc.U (Cl.cw 5 2)), .int .u64 (Oc.U (Cl.cw 5 3))]), .bool true]) ∧ Below w.heap.size w w' := by
  have h := refnamed_any (Cl.nm 5) (Cl.cls 5) (member_5) w
  rw [show Cl.any (Cl.cls 5) 256 = true by decide +kernel] at h
  exact h
theorem refnamed_6 (w : World) : Calls Tryz.prog 106 #[.string (Cl.nm 6)] w fun e w' => e = .returned (.tuple #[(.agg #[.int .u64 (Oc.U (Cl.cw 6 0)), .int .u64 (Oc.U (Cl.cw 6 1)), .int .u64 (Oc.U (Cl.cw 6 2)), .int .u64 (Oc.U (Cl.cw 6 3))]), .bool true]) ∧ Below w.heap.size w w' := by
  have h := refnamed_any (Cl.nm 6) (Cl.cls 6) (member_6) w
  rw [show Cl.any (Cl.cls 6) 256 = true by decide +kernel] at h
  exact h
theorem refnamed_7 (w : World) : Calls Tryz.prog 106 #[.string (Cl.nm 7)] w fun e w' => e = .returned (.tuple #[(.agg #[.int .u64 (Oc.U (Cl.cw 7 0)), .int .u64 (Oc.U (Cl.cw 7 1)), .int .u64 (Oc.U (Cl.cw 7 2)), .int .u64 (Oc.U (Cl.cw 7 3))]), .bool true]) ∧ Below w.heap.size w w' := by
  have h := refnamed_any (Cl.nm 7) (Cl.cls 7) (member_7) w
  rw [show Cl.any (Cl.cls 7) 256 = true by decide +kernel] at h
  exact h
theorem refnamed_8 (w : World) : Calls Tryz.prog 106 #[.string (Cl.nm 8)] w fun e w' => e = .returned (.tuple #[(.agg #[.int .u64 (Oc.U (Cl.cw 8 0)), .int .u64 (Oc.U (Cl.cw 8 1)), .int .u64 (Oc.U (Cl.cw 8 2)), .int .u64 (Oc.U (Cl.cw 8 3))]), .bool true]) ∧ Below w.heap.size w w' := by
  have h := refnamed_any (Cl.nm 8) (Cl.cls 8) (member_8) w
  rw [show Cl.any (Cl.cls 8) 256 = true by decide +kernel] at h
  exact h
theorem refnamed_9 (w : World) : Calls Tryz.prog 106 #[.string (Cl.nm 9)] w fun e w' => e = .returned (.tuple #[(.agg #[.int .u64 (Oc.U (Cl.cw 9 0)), .int .u64 (Oc.U (Cl.cw 9 1)), .int .u64 (Oc.U (Cl.cw 9 2)), .int .u64 (Oc.U (Cl.cw 9 3))]), .bool true]) ∧ Below w.heap.size w w' := by
  have h := refnamed_any (Cl.nm 9) (Cl.cls 9) (member_9) w
  rw [show Cl.any (Cl.cls 9) 256 = true by decide +kernel] at h
  exact h
theorem refnamed_10 (w : World) : Calls Tryz.prog 106 #[.string (Cl.nm 10)] w fun e w' => e = .returned (.tuple #[(.agg #[.int .u64 (Oc.U (Cl.cw 10 0)), .int .u64 (Oc.U (Cl.cw 10 1)), .int .u64 (Oc.U (Cl.cw 10 2)), .int .u64 (Oc.U (Cl.cw 10 3))]), .bool true]) ∧ Below w.heap.size w w' := by
  have h := refnamed_any (Cl.nm 10) (Cl.cls 10) (member_10) w
  rw [show Cl.any (Cl.cls 10) 256 = true by decide +kernel] at h
  exact h
theorem refnamed_11 (w : World) : Calls Tryz.prog 106 #[.string (Cl.nm 11)] w fun e w' => e = .returned (.tuple #[(.agg #[.int .u64 (Oc.U (Cl.cw 11 0)), .int .u64 (Oc.U (Cl.cw 11 1)), .int .u64 (Oc.U (Cl.cw 11 2)), .int .u64 (Oc.U (Cl.cw 11 3))]), .bool true]) ∧ Below w.heap.size w w' := by
  have h := refnamed_any (Cl.nm 11) (Cl.cls 11) (member_11) w
  rw [show Cl.any (Cl.cls 11) 256 = true by decide +kernel] at h
  exact h
theorem known : ∀ k, k < 12 → Known (Cl.nm k) k
  | 0, _ => ⟨named_0, refnamed_0⟩
  | 1, _ => ⟨named_1, refnamed_1⟩
  | 2, _ => ⟨named_2, refnamed_2⟩
  | 3, _ => ⟨named_3, refnamed_3⟩
  | 4, _ => ⟨named_4, refnamed_4⟩
  | 5, _ => ⟨named_5, refnamed_5⟩
  | 6, _ => ⟨named_6, refnamed_6⟩
  | 7, _ => ⟨named_7, refnamed_7⟩
  | 8, _ => ⟨named_8, refnamed_8⟩
  | 9, _ => ⟨named_9, refnamed_9⟩
  | 10, _ => ⟨named_10, refnamed_10⟩
  | 11, _ => ⟨named_11, refnamed_11⟩
  | k + 12, h => absurd h (by omega)
theorem toList_loop (s : ByteArray) : ∀ n i r, s.size - i = n → ByteArray.toList.loop s i r = r.reverse ++ s.data.toList.drop i := by
  intro n
  induction n with
  | zero =>
    intro i r h
    unfold ByteArray.toList.loop
    rw [if_neg (by omega), List.drop_eq_nil_of_le (by simp; show s.data.size ≤ i; have : s.data.size = s.size := rfl; omega), List.append_nil]
  | succ n ih =>
    intro i r h
    have hi : i < s.size := by omega
    unfold ByteArray.toList.loop
    rw [if_pos hi, ih (i + 1) _ (by omega)]
    have hl : i < s.data.toList.length := by simpa using hi
    rw [List.drop_eq_getElem_cons hl]
    have : s.get! i = s.data.toList[i] := by
      show s.data[i]! = _
      rw [getElem!_pos s.data i hi]; simp
    rw [this]; simp
theorem toList_eq (s : ByteArray) : s.toList = s.data.toList := by
  show ByteArray.toList.loop s 0 [] = _
  rw [toList_loop s s.size 0 [] (by omega)]; simp
theorem nm_bytes : ∀ k, k < 12 → (Cl.nm k).data.toList = Cl.nl k := by decide +kernel
/-- What the names' bytes tell. -/
theorem clsAt_some {t : ByteArray} {k : Nat} (h : Br.clsAt (t.data.toList.map (·.toNat)) = some k) : k < 12 ∧ t = Cl.nm k := by
  unfold Br.clsAt at h
  have hk := List.mem_range.1 (List.mem_of_find?_eq_some h)
  refine ⟨hk, ?_⟩
  have h1 := List.find?_some h
  simp only [beq_iff_eq] at h1
  have h2 : Cl.nl k = t.data.toList := List.map_inj_right (fun x y h => UInt8.toNat_inj.1 h) |>.1 h1
  rw [← nm_bytes k hk] at h2
  cases t; cases hh : Cl.nm k with
  | mk d => rw [hh] at h2; simp only at h2; rw [Array.toList_inj.1 h2]
theorem clsAt_none {t : ByteArray} (h : Br.clsAt (t.data.toList.map (·.toNat)) = none) : Cl.No t := by
  intro k hk
  unfold Br.clsAt at h
  have := List.find?_eq_none.1 h k (List.mem_range.2 hk)
  cases hb : t.toList == Cl.nl k with
  | false => rfl
  | true =>
    rw [beq_iff_eq, toList_eq] at hb
    rw [hb] at this
    simp at this
end Go.Proofs.YtlbhbjmobcikfaaGreatDoor
/- What the reference of bracket answers of one item. -/
namespace Go.Proofs.YtlbhbjmobcikfaaGreatDoor
open Go.RowKit
/-- The name in a text. -/
theorem name_part (s : ByteArray) (i e : Nat) (h : i ≤ e) (he : e ≤ s.size) : Br.part (bt s) i (e - i) = (s.extract i e).data.toList.map (·.toNat) := by
  apply List.ext_getElem
  · unfold Br.part; simp; omega
  · intro k h1 h2
    unfold Br.part at h1 ⊢
    simp at h1
    simp only [List.getElem_map, List.getElem_range]
    have hk : i + k < s.size := by omega
    rw [bt_in hk]
    unfold byteAt
    congr 1
    simp [hk]
end Go.Proofs.YtlbhbjmobcikfaaGreatDoor
/- Sets told by what they hold: the words of what is joined, met, turned, folded. Nothing of the program. -/
namespace Go.Proofs.YtlbhbjmobcikfaaGreatDoor
namespace Br
theorem mk_or (p q : Nat → Bool) (k : Nat) : Oc.mk p k ||| Oc.mk q k = Oc.mk (fun j => p j || q j) k := by
  refine (Oc.mk_eq fun i hi => ?_).symm
  rw [BitVec.getLsbD_or, Oc.mk_bit _ _ _ hi, Oc.mk_bit _ _ _ hi]
theorem mk_not (p : Nat → Bool) (k : Nat) : ~~~(Oc.mk p k) = Oc.mk (fun j => !p j) k := by
  refine (Oc.mk_eq fun i hi => ?_).symm
  rw [BitVec.getLsbD_not, Oc.mk_bit _ _ _ hi]; simp [hi]
theorem mk_same {p q : Nat → Bool} {k : Nat} (hk : k < 4) (h : ∀ i, i < 256 → p i = q i) : Oc.mk p k = Oc.mk q k := by
  refine Oc.mk_eq fun i hi => ?_
  rw [h _ (by omega), Oc.mk_bit _ _ _ hi]
theorem mk_fold (p : Nat → Bool) (k : Nat) (hk : k < 4) : Oc.mk (Cl.fold (Oc.mem (Oc.mk p 0) (Oc.mk p 1) (Oc.mk p 2) (Oc.mk p 3))) k = Oc.mk (Cl.fold p) k :=
  mk_same hk fun i hi => by unfold Cl.fold; rw [Oc.mem_mk p i hi, Oc.mem_mk p _ (Cl.oth_lt hi)]
end Br
end Go.Proofs.YtlbhbjmobcikfaaGreatDoor
/- What the reference of bracket reads. -/
namespace Go.Proofs.YtlbhbjmobcikfaaGreatDoor
open Go.RowKit
theorem setC_one {a b c d : Int} : (#[.int .u64 a, .int .u64 b, .int .u64 c, .int .u64 d] : Array Value).all (·.oneCell') = true := by simp [Value.oneCell']
end Go.Proofs.YtlbhbjmobcikfaaGreatDoor
/- Bracket expressions: what stands ahead and behind. Plain facts: nothing of the program. -/
namespace Go.Proofs.YtlbhbjmobcikfaaGreatDoor
namespace Br
/-- Text f of n bytes stands in text g of N bytes, s places on. -/
structure Within (f g : Nat → Nat) (n N s : Nat) : Prop where
  fit : n + s ≤ N
  same : ∀ j, j < n → g (j + s) = f j
/-- A range at the end of f whose second byte, a '[', goes on behind it. -/
def Open (f g : Nat → Nat) (n s : Nat) : Prop := f (n - 1) = 91 ∧ (g (n + s) = 46 ∨ g (n + s) = 61)
theorem isRange_in {f g : Nat → Nat} {n N s i : Nat} (hw : Within f g n N s) (h : isRange f n i = true) : isRange g N (i + s) = true := by
  unfold isRange at h ⊢
  simp only [Bool.and_eq_true, beq_iff_eq, bne_iff_ne, ne_eq, decide_eq_true_eq] at h ⊢
  have h1 := hw.same (i + 1) (by omega)
  have h2 := hw.same (i + 2) (by omega)
  have := hw.fit
  rw [show i + s + 1 = i + 1 + s by omega, show i + s + 2 = i + 2 + s by omega, h1, h2]
  exact ⟨⟨h.1.1, by omega⟩, h.2⟩
theorem isRange_out {f g : Nat → Nat} {n N s i : Nat} (hw : Within f g n N s) (hi : i + 1 < n) (hno : ¬ (i + 2 = n ∧ f (i + 1) = 45)) (h : isRange f n i = false) : isRange g N (i + s) = false := by
  have h1 := hw.same (i + 1) (by omega)
  unfold isRange at h ⊢
  rw [show i + s + 1 = i + 1 + s by omega, show i + s + 2 = i + 2 + s by omega, h1]
  by_cases h45 : f (i + 1) = 45
  · have hin : i + 2 < n := by omega
    rw [hw.same (i + 2) hin]
    rw [h45] at h ⊢
    have hd : decide (i + 2 < n) = true := by simpa using hin
    rw [hd] at h
    simp only [BEq.rfl, Bool.true_and] at h
    rw [h]; simp
  · have : (f (i + 1) == 45) = false := by simpa using h45
    rw [this]; simp
/-- What an item answers ahead of the end of f stays. -/
theorem item_ok_in {f g : Nat → Nat} {n N s i a a' j : Nat} {Q : Nat → Bool} (hf : Txt f n) (hw : Within f g n N s) (hi : i < n) (h : item f n i a = .ok Q j) (hj : j < n) (hno : ¬ (i + 2 = n ∧ f (i + 1) = 45)) : item g N (i + s) a' = .ok Q (j + s) := by
  have hn := item_next hi h
  have hfit := hw.fit
  have hd : dotted g (i + s) = dotted f i := dotted_sh (hw.same i hi) (hw.same (i + 1) (by omega))
  have hc : colon g (i + s) = colon f i := colon_sh (hw.same i hi) (hw.same (i + 1) (by omega))
  unfold item at h ⊢
  rw [hd, hc]
  split at h
  · cases h
  · rename_i hdf
    rw [if_neg hdf]
    split at h
    · rename_i hcf
      rw [if_pos hcf]
      unfold classed at h ⊢
      split at h
      · cases h
      · rename_i e he
        obtain ⟨e1, e2, e3, e4, e5⟩ := clos_some he
        have hen : e + 1 < n := hf.lt e4 (by omega)
        have hg : clos g (N - (i + s + 3)) (i + s + 2) = some (e + s) := by
          refine clos_intro (by omega) (by omega) ?_ ?_ ?_
          · rw [hw.same e (by omega)]; exact e3
          · rw [show e + s + 1 = e + 1 + s by omega, hw.same (e + 1) hen]; exact e4
          · intro x hx hxe
            have := e5 (x - s) (by omega) (by omega)
            rw [← hw.same (x - s) (by omega), ← hw.same (x - s + 1) (by omega), show x - s + s = x by omega, show x - s + 1 + s = x + 1 by omega] at this
            exact this
        rw [hg]
        unfold named at h ⊢
        simp only
        rw [show e + s - (i + s + 2) = e - (i + 2) by omega, show i + s + 2 = i + 2 + s by omega, part_sh (fun x hx => hw.same (i + 2 + x) (by omega))]
        split at h
        · cases h
        · cases h
          show Ans.ok _ _ = Ans.ok _ _
          congr 1; omega
    · rename_i hcf
      rw [if_neg hcf]
      split at h
      · rename_i hr
        rw [if_pos (isRange_in hw hr)]
        unfold ranged at h ⊢
        have hin : i + 2 < n := by unfold isRange at hr; simp only [Bool.and_eq_true, decide_eq_true_eq] at hr; exact hr.1.2
        split at h
        · cases h
        rename_i hd2
        split at h
        · cases h
        rename_i hc2
        cases h
        rw [show i + s + 2 = i + 2 + s by omega, dotted_sh (hw.same (i + 2) (by omega)) (hw.same (i + 2 + 1) (by omega)), if_neg hd2, colon_sh (hw.same (i + 2) (by omega)) (hw.same (i + 2 + 1) (by omega)), hw.same (i + 2) (by omega), hw.same i (by omega), if_neg hc2]
        congr 1; omega
      · rename_i hr
        cases h
        rw [if_neg (by rw [isRange_out hw hj hno (by simpa using hr)]; simp), hw.same i hi]
        congr 1; omega
/-- A fault, but for a missing bracket, stays; or it is a range that goes on behind the end of f. -/
theorem item_err_in {f g : Nat → Nat} {n N s i a a' c : Nat} {p : Int} (hf : Txt f n) (hw : Within f g n N s) (hi : i < n) (h : item f n i a = .err c p) (h1 : c ≠ 1) :
    (c = 5 ∧ p = i ∧ i + 3 = n ∧ Open f g n s ∧ item g N (i + s) a' = .err 7 ((n : Int) - 1 + s)) ∨ (¬ (c = 5 ∧ p = i ∧ i + 3 = n ∧ Open f g n s) ∧ item g N (i + s) a' = .err c (p + s)) := by
  have hfit := hw.fit
  unfold item at h
  split at h
  · rename_i hdf
    cases h
    refine .inr ⟨by omega, ?_⟩
    have h2 : i + 1 < n := by
      unfold dotted at hdf; simp only [Bool.and_eq_true, Bool.or_eq_true, beq_iff_eq] at hdf
      rcases hdf.2 with h | h <;> exact hf.lt h (by omega)
    unfold item
    rw [dotted_sh (hw.same i hi) (hw.same (i + 1) h2), if_pos hdf]
    simp
  rename_i hdf
  split at h
  · rename_i hcf
    have h2 : i + 1 < n := by
      unfold colon at hcf; simp only [Bool.and_eq_true, beq_iff_eq] at hcf
      exact hf.lt hcf.2 (by omega)
    unfold item
    rw [dotted_sh (hw.same i hi) (hw.same (i + 1) h2), if_neg hdf, colon_sh (hw.same i hi) (hw.same (i + 1) h2), if_pos hcf]
    unfold classed at h ⊢
    split at h
    · cases h; exact absurd rfl h1
    · rename_i e he
      obtain ⟨e1, e2, e3, e4, e5⟩ := clos_some he
      have hen : e + 1 < n := hf.lt e4 (by omega)
      have hg : clos g (N - (i + s + 3)) (i + s + 2) = some (e + s) := by
        refine clos_intro (by omega) (by omega) ?_ ?_ ?_
        · rw [hw.same e (by omega)]; exact e3
        · rw [show e + s + 1 = e + 1 + s by omega, hw.same (e + 1) hen]; exact e4
        · intro x hx hxe
          have := e5 (x - s) (by omega) (by omega)
          rw [← hw.same (x - s) (by omega), ← hw.same (x - s + 1) (by omega), show x - s + s = x by omega, show x - s + 1 + s = x + 1 by omega] at this
          exact this
      rw [hg]
      unfold named at h ⊢
      simp only
      rw [show e + s - (i + s + 2) = e - (i + 2) by omega, show i + s + 2 = i + 2 + s by omega, part_sh (fun x hx => hw.same (i + 2 + x) (by omega))]
      split at h
      · cases h
        exact .inr ⟨by omega, by simp⟩
      · cases h
  rename_i hcf
  split at h
  · rename_i hr
    have hin : i + 2 < n := by unfold isRange at hr; simp only [Bool.and_eq_true, decide_eq_true_eq] at hr; exact hr.1.2
    unfold item
    rw [dotted_sh (hw.same i hi) (hw.same (i + 1) (by omega)), if_neg hdf, colon_sh (hw.same i hi) (hw.same (i + 1) (by omega)), if_neg hcf, if_pos (isRange_in hw hr)]
    unfold ranged at h ⊢
    rw [show i + s + 2 = i + 2 + s by omega, hw.same (i + 2) hin, hw.same i hi]
    split at h
    · rename_i hd2
      cases h
      refine .inr ⟨by omega, ?_⟩
      have h3 : i + 2 + 1 < n := by
        unfold dotted at hd2; simp only [Bool.and_eq_true, Bool.or_eq_true, beq_iff_eq] at hd2
        rcases hd2.2 with h | h <;> exact hf.lt h (by omega)
      rw [dotted_sh (hw.same (i + 2) (by omega)) (hw.same (i + 2 + 1) (by omega)), if_pos hd2]
      congr 1; push_cast; omega
    rename_i hd2
    split at h
    · rename_i hc2
      cases h
      by_cases h3 : i + 2 + 1 < n
      · refine .inr ⟨by omega, ?_⟩
        rw [dotted_sh (hw.same (i + 2) (by omega)) (hw.same (i + 2 + 1) (by omega)), if_neg hd2, colon_sh (hw.same (i + 2) (by omega)) (hw.same (i + 2 + 1) (by omega)), if_pos hc2]
        congr 1
      · have hn : i + 3 = n := by omega
        have hlt : decide (f (i + 2) < f i) = true := by
          have : colon f (i + 2) = false := by
            unfold colon; rw [hf.2 (i + 2 + 1) (by omega)]; simp
          rw [this] at hc2; simpa using hc2
        by_cases ho : Open f g n s
        · refine .inl ⟨rfl, rfl, hn, ho, ?_⟩
          obtain ⟨o1, o2⟩ := ho
          have hdg : dotted g (i + 2 + s) = true := by
            unfold dotted
            rw [hw.same (i + 2) hin, show i + 2 = n - 1 by omega, o1, show n - 1 + s + 1 = n + s by omega]
            rcases o2 with h | h <;> rw [h] <;> rfl
          rw [if_pos hdg]
          congr 1; push_cast; omega
        · refine .inr ⟨fun h => ho h.2.2.2, ?_⟩
          have hdg : dotted g (i + 2 + s) = false := by
            unfold dotted
            rw [hw.same (i + 2) hin]
            by_cases h91 : f (i + 2) = 91
            · have hx : ¬ (g (n + s) = 46 ∨ g (n + s) = 61) := fun hx => ho ⟨by rw [show n - 1 = i + 2 by omega]; exact h91, hx⟩
              rw [show i + 2 + s + 1 = n + s by omega]
              simp only [not_or] at hx
              simp [hx.1, hx.2]
            · simp [h91]
          rw [if_neg (by rw [hdg]; simp), if_pos (by rw [hlt]; simp)]
          congr 1
    · cases h
  · cases h
theorem item_err5 {f : Nat → Nat} {n i a : Nat} {p : Int} (he : item f n i a = .err 5 p) : p = i := by
  unfold item at he
  split at he
  · cases he
  split at he
  · unfold classed at he; split at he
    · cases he
    · unfold named at he; split at he <;> cases he
  split at he
  · unfold ranged at he
    split at he
    · cases he
    split at he
    · simp only [Ans.err.injEq] at he; exact he.2.symm
    · cases he
  · cases he
/-- All items: what is read ahead of the end of f stays, but for a missing bracket. -/
theorem items_in {f g : Nat → Nat} {n N s a a' : Nat} (hf : Txt f n) (hw : Within f g n N s) : ∀ {k k' i : Nat} {P : Nat → Bool} {b : Bool}, i ≤ n → k ≤ k' → (∀ p, items f n a k i P b ≠ .err 1 p) →
    (∃ i', i' + 3 = n ∧ items f n a k i P b = .err 5 i' ∧ Open f g n s ∧ items g N a' k' (i + s) P b = .err 7 ((n : Int) - 1 + s)) ∨
    ((∀ i', i' + 3 = n → items f n a k i P b = .err 5 (i' : Nat) → ¬ Open f g n s) ∧ items g N a' k' (i + s) P b = sh s a' (items f n a k i P b))
  | 0, _, _, _, _, _, _, h => absurd rfl (h _)
  | k + 1, 0, _, _, _, _, hk, _ => by omega
  | k + 1, k' + 1, i, P, b, hi, hk, h => by
    have hfit := hw.fit
    by_cases hend : i = n
    · exfalso
      unfold items at h
      subst hend
      rw [if_neg (by rw [hf.2 i (Nat.le_refl _)]; simp), if_pos (Nat.le_refl _)] at h
      exact h _ rfl
    have hin : i < n := by omega
    have hfi : ¬ n ≤ i := by omega
    have hgi : ¬ N ≤ i + s := by omega
    unfold items at h ⊢
    rw [hw.same i hin]
    by_cases hb : (b && f i == 93) = true
    · rw [if_pos hb, if_pos hb]
      exact .inr ⟨fun _ _ h => (by cases h), rfl⟩
    rw [if_neg hb, if_neg hfi] at h
    rw [if_neg hb, if_neg hb, if_neg hfi, if_neg hgi]
    cases he : item f n i a with
    | err c p =>
      rw [he] at h
      have hc1 : c ≠ 1 := fun hc => h p (by rw [hc])
      rcases item_err_in (a' := a') hf hw hin he hc1 with ⟨rfl, rfl, h3, ho, hg⟩ | ⟨hno, hg⟩
      · rw [hg]; exact .inl ⟨i, h3, rfl, ho, rfl⟩
      · rw [hg]
        refine .inr ⟨fun i' h3 h5 ho => ?_, by simp [sh, hc1]⟩
        simp only [Ans.err.injEq] at h5
        obtain ⟨rfl, rfl⟩ := h5
        have := item_err5 he
        exact hno ⟨rfl, this, by omega, ho⟩
    | ok Q j =>
      rw [he] at h
      obtain ⟨n1, n2⟩ := item_next hin he
      have hj : j < n := by
        by_cases hj : j = n
        · exfalso
          subst hj
          cases k with
          | zero => exact h _ rfl
          | succ k =>
            simp only at h
            unfold items at h
            rw [if_neg (by rw [hf.2 j (Nat.le_refl _)]; simp), if_pos (Nat.le_refl _)] at h
            exact h _ rfl
        · omega
      have hno : ¬ (i + 2 = n ∧ f (i + 1) = 45) := by
        rintro ⟨q1, q2⟩
        obtain rfl : j = i + 1 := by omega
        cases k with
        | zero => exact h _ rfl
        | succ k =>
          simp only at h
          unfold items at h
          have hit : item f n (i + 1) a = .ok (fun x => x == f (i + 1)) (i + 1 + 1) := by
            unfold item
            have d1 : dotted f (i + 1) = false := by unfold dotted; rw [q2]; rfl
            have d2 : colon f (i + 1) = false := by unfold colon; rw [q2]; rfl
            have d3 : isRange f n (i + 1) = false := by
              unfold isRange
              rw [show decide (i + 1 + 2 < n) = false by simp; omega]; simp
            rw [d1, d2, d3]; rfl
          rw [if_neg (by rw [q2]; simp), if_neg (by omega), hit] at h
          simp only at h
          cases k with
          | zero => exact h _ rfl
          | succ k =>
            unfold items at h
            rw [if_neg (by rw [hf.2 (i + 1 + 1) (by omega)]; simp), if_pos (by omega)] at h
            exact h _ rfl
      rw [item_ok_in (a' := a') hf hw hin he hj hno]
      exact items_in hf hw n2 (by omega) h
end Br
end Go.Proofs.YtlbhbjmobcikfaaGreatDoor
/- errors.Is over a sentinel in any number of wrappings (api.Fault, api.Listed). -/
namespace Go.Proofs.YtlbhbjmobcikfaaGreatDoor
open Go.RowKit Go.Extern.Stop Go.Stop Go.Extern
/-- An error that wraps the sentinel at a, n wrappings around it. -/
inductive Chain (w : World) (a : Addr) : Nat → Value → Prop
  | base : Chain w a 0 (.iface 184 (.pointer (some a)))
  | fault {n : Nat} {v : Value} (p : Nat) (h : w.cell? ⟨p, 1, none⟩ = some v) (k : Chain w a n v) : Chain w a (n + 1) (.iface 65 (.pointer (some ⟨p, 0, none⟩)))
theorem Chain.iface {w : World} {a : Addr} {n : Nat} {v : Value} (h : Chain w a n v) : ∃ t p, v = .iface t p := by cases h <;> exact ⟨_, _, rfl⟩
theorem Chain.of_cells {w w' : World} {a : Addr} {n : Nat} {v : Value} (h : Chain w a n v) (hc : ∀ p x, w.cell? ⟨p, 1, none⟩ = some x → w'.cell? ⟨p, 1, none⟩ = some x) : Chain w' a n v := by
  induction h with
  | base => have _ := hc; exact .base
  | fault p h k ih => exact .fault p (hc _ _ h) ih
/-- What Comparable of a type's handle does. -/
def cmpX : Array Value → Sem Value := Extern.ReflectliteType.method fun t => do Extern.Rtype.noPackHeld "Comparable" t; pure (.bool (← typeInfo t).comparable)
theorem Tryz.isTypeOf {N : Nat} (hN : N = Tryz.prog.globals.size) (v : Value) (w : World) : (Extern.ReflectliteType.typeOf #[.iface 184 v]).run Tryz.prog w = .ok (.iface 108 (.agg #[.pointer (some ⟨N, 184, none⟩)])) w := by subst hN; kernel_rfl
theorem Tryz.isComparable {N : Nat} (hN : N = Tryz.prog.globals.size) (w : World) : (cmpX #[.agg #[.pointer (some ⟨N, 184, none⟩)]]).run Tryz.prog w = .ok (.bool true) w := by subst hN; kernel_rfl
theorem Tryz.isMethodComparable (n : Nat) (v : Value) (w : World) : (Go.method (n + 1) 108 v "Comparable").run Tryz.prog w = .ok (197, v) w := by kernel_rfl
theorem Tryz.isComp : (Tryz.prog.info? 184).map (·.comparable) = some true := by kernel_rfl
theorem Tryz.isSize : (Tryz.prog.info? 205).map (·.size) = some 1 := by kernel_rfl
theorem Tryz.noIsE (v : Value) (xT : TypeId) (w : World) : (Instr.typeAssert (.iface 184 v) xT 110 true).run Tryz.prog w = .ok (.tuple #[.nilIface, .bool false]) w := run_typeAssert_lacksB Tryz.underlying110 (by kernel_rfl) (by kernel_rfl) v xT w
theorem Tryz.noUnwrapE (v : Value) (xT : TypeId) (w : World) : (Instr.typeAssert (.iface 184 v) xT 113 true).run Tryz.prog w = .ok (.tuple #[.nilIface, .bool false]) w := run_typeAssert_lacksB Tryz.underlying113 (by kernel_rfl) (by kernel_rfl) v xT w
theorem Tryz.noUnwrapsE (v : Value) (xT : TypeId) (w : World) : (Instr.typeAssert (.iface 184 v) xT 115 true).run Tryz.prog w = .ok (.tuple #[.nilIface, .bool false]) w := run_typeAssert_lacksB Tryz.underlying115 (by kernel_rfl) (by kernel_rfl) v xT w
theorem Tryz.noIsF (v : Value) (xT : TypeId) (w : World) : (Instr.typeAssert (.iface 65 v) xT 110 true).run Tryz.prog w = .ok (.tuple #[.nilIface, .bool false]) w := run_typeAssert_lacksB Tryz.underlying110 (by kernel_rfl) (by kernel_rfl) v xT w
theorem Tryz.hasUnwrapF (v : Value) (xT : TypeId) (w : World) : (Instr.typeAssert (.iface 65 v) xT 113 true).run Tryz.prog w = .ok (.tuple #[.iface 65 v, .bool true]) w := run_typeAssert_hasB Tryz.underlying113 (by kernel_rfl) v xT w
theorem Tryz.methodUnwrapF (n : Nat) (v : Value) (w : World) : (Go.method (n + 1) 65 v "Unwrap").run Tryz.prog w = .ok (191, v) w := by kernel_rfl
theorem unwrap_fault (p : Nat) (x : Value) (w : World) (h : w.cell? ⟨p, 1, none⟩ = some x) :
    Calls Tryz.prog 191 #[.pointer (some ⟨p, 0, none⟩)] w fun e w' => e = .returned x ∧ w = w' := by
  go_enter Tryz.func191, Tryz.ntmps191
  go_wp2
  go_ret
  exact ⟨rfl, rfl⟩
set_option maxHeartbeats 1000000 in
theorem is_in (a b : Addr) (n : Nat) (v : Value) (w : World) (hch : Chain w a n v) (ca cb : Array Value) (ta tb : TypeId) (ha : w.heap[a.block]? = some (.cells ca ta (0, 0))) (hb : w.heap[b.block]? = some (.cells cb tb (0, 0))) :
    Calls Tryz.prog 53 #[v, .iface 184 (.pointer (some b)), .bool true] w fun e w' => e = .returned (.bool (decide (a = b))) ∧ w = w' := by
  obtain ⟨i, hi, hcmp⟩ := Option.map_eq_some_iff.1 Tryz.isComp
  obtain ⟨j, hj, hjs⟩ := Option.map_eq_some_iff.1 Tryz.isSize
  have nE := Tryz.noIsE
  have uE := Tryz.noUnwrapE
  have vE := Tryz.noUnwrapsE
  have nF := Tryz.noIsF
  have uF := Tryz.hasUnwrapF
  have mF := Tryz.methodUnwrapF
  have tyF := fun p => run_eql_iface_types (P := Tryz.prog) 65 184 (.pointer (some ⟨p, 0, none⟩)) (.pointer (some b)) Tryz.underlying30 (by decide) w
  have heq : (binOp .eql 30 (.iface 184 (.pointer (some a))) (.iface 184 (.pointer (some b)))).run Tryz.prog w = .ok (.bool (decide (a = b))) w := by
    by_cases hab : a = b
    · subst hab
      rw [run_eql_iface_ptr_same (P := Tryz.prog) w a Tryz.underlying30 Tryz.underlying184 hi hcmp hj]; simp
    · rw [run_eql_iface_ptr_other (P := Tryz.prog) w Tryz.underlying30 Tryz.underlying184 hi hcmp hj (by rw [hjs]; decide) hab ha hb]; simp [hab]
  generalize decide (a = b) = r at heq ⊢
  clear hi hcmp hj hjs ha hb
  have HCH := Lib.hid hch
  clear hch
  go_enter Tryz.func53, Tryz.ntmps53
  go_wp2_with fail
  go_loopg [0] n (fun k x wr => wr = w ∧ Hid (Chain w a k x))
  case atStart => exact ⟨rfl, HCH.out⟩
  case round =>
    obtain ⟨rfl, HC⟩ := hrel
    rcases HC.out with _ | @⟨m, x, p, h, k⟩
    · cases r with
      | true =>
        go_wp2
        go_ret
        exact ⟨rfl, rfl⟩
      | false =>
        go_wp2
        go_ret
        exact ⟨rfl, rfl⟩
    · obtain ⟨t, q, rfl⟩ := k.iface
      have HK := Lib.hid k
      clear k HC
      go_wp2_with (go_at_call 191; refine (unwrap_fault _ _ _ h).mono ?_; rintro e w' ⟨rfl, rfl⟩)
      go_roundg m
      case measure => omega
      case rel => exact ⟨rfl, HK.out⟩
set_option maxRecDepth 100000 in
set_option maxHeartbeats 400000 in
/-- errors.Is of a sentinel in wrappings and a sentinel: are they one? -/
theorem is_any (a b : Addr) (n : Nat) (v : Value) (w : World) (hch : Chain w a n v) (ca cb : Array Value) (ta tb : TypeId) (ha : w.heap[a.block]? = some (.cells ca ta (0, 0))) (hb : w.heap[b.block]? = some (.cells cb tb (0, 0))) :
    Calls Tryz.prog 33 #[v, .iface 184 (.pointer (some b))] w fun e w' => e = .returned (.bool (decide (a = b))) ∧ w = w' := by
  have h8 := @run_callFunc_extern Tryz.prog 52 _ Extern.ReflectliteType.typeOf Tryz.func52 (by kernel_rfl) (by kernel_rfl) (by kernel_rfl) (by kernel_rfl)
  have h32 := @run_callFunc_extern Tryz.prog 197 _ cmpX Tryz.func197 (by kernel_rfl) (by kernel_rfl) (by kernel_rfl) (by kernel_rfl)
  obtain ⟨N, hN⟩ : ∃ N, N = Tryz.prog.globals.size := ⟨_, rfl⟩
  have tT := Tryz.isTypeOf hN
  have cT := Tryz.isComparable hN
  clear hN
  have mR := Tryz.isMethodComparable
  have hin := is_in a b n v w hch ca cb ta tb ha hb
  obtain ⟨t, q, rfl⟩ := hch.iface
  have HIN := Lib.hid hin
  clear hin ha hb hch
  go_enter Tryz.func33, Tryz.ntmps33
  go_wp2_with (go_at_call 53; refine HIN.out.mono ?_; rintro e w' ⟨rfl, rfl⟩)
  go_ret
  exact ⟨rfl, rfl⟩
end Go.Proofs.YtlbhbjmobcikfaaGreatDoor
/- What the listed sentinels give: each variable holds a pointer to a text of its own. -/
namespace Go.Proofs.YtlbhbjmobcikfaaGreatDoor
open Go.ChangeShapes Go.WideShapes Go.ChangeAt Go.RowKit
/-- A sentinel's variable g: the pointer a, behind it the text t. -/
def Sent (W : World) (g : Nat) (t : List UInt8) (a : Addr) : Prop :=
  W.cell? ⟨g, 0, none⟩ = some (.iface 184 (.pointer (some a))) ∧ g < W.heap.size ∧ a.block < W.heap.size ∧ (∃ s, W.cell? a = some (.string s) ∧ s.data.toList = t ∧ s.size ≤ maxLen) ∧ ∃ c ty, W.heap[a.block]? = some (.cells c ty (0, 0))
theorem Sent.below {W W' : World} {g : Nat} {t : List UInt8} {a : Addr} (h : Sent W g t a) (hb : Below W.heap.size W W') : Sent W' g t a := by
  obtain ⟨h1, h2, h3, ⟨s, h4, h5, h6⟩, c, ty, h7⟩ := h
  exact ⟨(hb.cell (p := ⟨g, 0, none⟩) h2).trans h1, Nat.lt_of_lt_of_le h2 hb.size, Nat.lt_of_lt_of_le h3 hb.size, ⟨s, (hb.cell h3).trans h4, h5, h6⟩, c, ty, (hb.block _ h3).trans h7⟩
theorem Sent.apart {W : World} {g g' : Nat} {t t' : List UInt8} {a a' : Addr} (h : Sent W g t a) (h' : Sent W g' t' a') (hne : t ≠ t') : a ≠ a' := by
  rintro rfl
  obtain ⟨-, -, -, ⟨s, h4, h5, -⟩, -⟩ := h
  obtain ⟨-, -, -, ⟨s', h4', h5', -⟩, -⟩ := h'
  rw [h4] at h4'
  simp only [Option.some.injEq, Value.string.injEq] at h4'
  subst h4'
  exact hne (h5.symm.trans h5')
def sentDatum (t : List UInt8) : DataW Unit := .iface "*errors.errorString" (.ptr (.agg [.lit (.string t)]))
theorem Tryz.starE : "*" ++ "errors.errorString" = "*errors.errorString" := by decide
theorem Tryz.rowE (u : TypeId) (h : Tryz.prog.typeName? 3 u = some "*errors.errorString") : u = 184 :=
  typeName_ptr_named (nm := "errors.errorString") (by rw [Tryz.starE]; kernel_rfl) (by kernel_rfl) (by decide) u (by rw [Tryz.starE]; exact h)
theorem Tryz.cellsE : Tryz.prog.cellsOf 205 = 1 := by kernel_rfl
theorem Tryz.cellsStr : Tryz.prog.cellsOf 9 = 1 := by kernel_rfl
theorem block_lt {W : World} {b : Nat} {o : Obj} (h : W.heap[b]? = some o) : b < W.heap.size := (Array.getElem?_eq_some_iff.1 h).1
theorem sent_head_any {P : Program} {n nm : String} {text : List UInt8} {r : List (String × DataW Unit)} {W : World} {g : Nat} {ti tp te ts : TypeId} {ms : Array (String × TypeId)} {f : Field}
    (h : laidMet P ((n, .iface nm (.ptr (.agg [.lit (.string text)]))) :: r) W)
    (hg : P.globalNamed n = some g) (ht : (P.globals[g]?).map (·.type) = some ti) (hi : P.underlying ti = some (.interface ms)) (hrow : ∀ u, P.typeName? 3 u = some nm → u = tp)
    (hp : P.underlying tp = some (.pointer te)) (he : P.underlying te = some (.struct #[f])) (hft : f.type = ts) (hfo : f.offset = 0) (hs : P.underlying ts = some .string) (hc : P.cellsOf te = 1) (hcs : P.cellsOf ts = 1) :
    ∃ (a : Addr) (s : ByteArray) (c0 c1 : Array Value) (t0 t1 : TypeId), W.cell? ⟨g, 0, none⟩ = some (.iface tp (.pointer (some a))) ∧ W.cell? a = some (.string s) ∧ s.data.toList = text ∧ s.size ≤ maxLen ∧ W.heap[a.block]? = some (.cells c0 t0 (0, 0)) ∧ W.heap[g]? = some (.cells c1 t1 (0, 0)) := by
  obtain ⟨ps, ⟨g0, t0, cs0, f0, p0, q0, hg0, ht0, hv0, hd0, _, e0⟩, _, hrows⟩ := h
  obtain rfl := Option.some.inj (hg.symm.trans hg0)
  obtain rfl := Option.some.inj (ht.symm.trans ht0)
  subst e0
  obtain ⟨l0⟩ := cs0
  have ok0 : ∀ u v, l0 = [.iface u v] → Value.okWide P W .any 0 u v := fun u v e => by
    subst e
    exact (hrows g 0 (by simp [MemPlace.row])).2 u v (by simpa using World.var?_cell hg0 hv0 0)
  obtain ⟨a0, s0, rfl, hc0, hs0, hz0, rfl⟩ := errorString_of_trod hi hrow hp he hft hfo hs hc hcs hd0 ok0
  obtain ⟨c0, t1, hb0⟩ := (hrows a0.block a0.off (by simp [MemPlace.row])).1
  obtain ⟨c1, t2, hb1⟩ := (hrows g 0 (by simp [MemPlace.row])).1
  exact ⟨a0, s0, c0, c1, t1, t2, by simpa using World.var?_cell hg0 hv0 0, hc0, hs0, hz0, hb0, hb1⟩
theorem sent_head {n : String} {t : List UInt8} {r : List (String × DataW Unit)} {W : World} {g : Nat} (h : laidMet Tryz.prog ((n, sentDatum t) :: r) W) (hg : Tryz.prog.globalNamed n = some g) (ht : (Tryz.prog.globals[g]?).map (·.type) = some 30) :
    ∃ a, Sent W g t a := by
  obtain ⟨a, s, c0, c1, t0, t1, h1, h2, h3, h4, h5, h6⟩ := sent_head_any h hg ht Tryz.underlying30 Tryz.rowE Tryz.underlying184 Tryz.underlying205 rfl rfl Tryz.underlying9 Tryz.cellsE Tryz.cellsStr
  exact ⟨a, h1, block_lt h6, block_lt h5, ⟨s, h2, h3, h4⟩, c0, t0, h5⟩
theorem sent_of : ∀ {l : List (String × DataW Unit)} {W : World}, laidMet Tryz.prog l W → ∀ {n t g}, (n, sentDatum t) ∈ l → Tryz.prog.globalNamed n = some g → (Tryz.prog.globals[g]?).map (·.type) = some 30 → ∃ a, Sent W g t a
  | [], _, _, _, _, _, hm, _, _ => by cases hm
  | x :: l, W, h, n, t, g, hm, hg, ht => by
    rcases List.mem_cons.1 hm with e | hm
    · subst e; exact sent_head h hg ht
    · exact sent_of h.tail hm hg ht
end Go.Proofs.YtlbhbjmobcikfaaGreatDoor
/- The twenty-one sentinels at once: their variables, their texts. -/
namespace Go.Proofs.YtlbhbjmobcikfaaGreatDoor
open Go.ChangeShapes Go.WideShapes Go.ChangeAt Go.RowKit
/-- The words of the document's table, from number 1 on. -/
def errWords : List (List UInt8) := [[98, 114, 97, 99, 107, 101, 116], [112, 97, 114, 101, 110, 116, 104, 101, 115, 105, 115], [98, 114, 97, 99, 101], [99, 111, 117, 110, 116], [114, 97, 110, 103, 101], [99, 108, 97, 115, 115], [99, 111, 108, 108, 97, 116, 105, 110, 103], [101, 115, 99, 97, 112, 101], [114, 101, 112, 101, 97, 116], [116, 111, 111, 32, 98, 105, 103], [110, 101, 115, 116, 105, 110, 103], [108, 111, 110, 103], [116, 114, 101, 101], [100, 101, 101, 112], [97, 114, 103, 117, 109, 101, 110, 116], [110, 111, 32, 109, 97, 116, 99, 104], [105, 109, 97, 103, 101], [109, 97, 110, 121], [111, 112, 116, 105, 111, 110], [99, 111, 109, 109, 97, 110, 100], [99, 108, 111, 115, 101, 100]]
def errPre : List UInt8 := [116, 114, 97, 119, 108, 58, 32]
/-- Their variables. -/
def errVars : List Nat := [1, 2, 3, 4, 5, 6, 7, 8, 9, 10, 11, 0, 12, 13, 14, 15, 16, 17, 18, 19, 20]
/-- All sentinels as the document has them, at the pointers A 0, A 1, .. -/
def Errs (W : World) (A : Nat → Addr) : Prop := ∀ k, k < 21 → Sent W (errVars.getD k 0) (errPre ++ errWords.getD k []) (A k)
theorem Errs.below {W W' : World} {A : Nat → Addr} (h : Errs W A) (hb : Below W.heap.size W W') : Errs W' A := fun k hk => (h k hk).below hb
theorem errWords_apart : ∀ i, i < 21 → ∀ j, j < 21 → i ≠ j → errPre ++ errWords.getD i [] ≠ errPre ++ errWords.getD j [] := by decide +kernel
theorem Errs.apart {W : World} {A : Nat → Addr} (h : Errs W A) {i j : Nat} (hi : i < 21) (hj : j < 21) (hne : i ≠ j) : A i ≠ A j := (h i hi).apart (h j hj) (errWords_apart i hi j hj hne)
def errList : List (String × DataW Unit) := [("trawl/api.ErrBracket", Rows.laid_trawl_api_ErrBracket), ("trawl/api.ErrParen", Rows.laid_trawl_api_ErrParen), ("trawl/api.ErrBrace", Rows.laid_trawl_api_ErrBrace), ("trawl/api.ErrCount", Rows.laid_trawl_api_ErrCount), ("trawl/api.ErrRange", Rows.laid_trawl_api_ErrRange), ("trawl/api.ErrClass", Rows.laid_trawl_api_ErrClass), ("trawl/api.ErrCollate", Rows.laid_trawl_api_ErrCollate), ("trawl/api.ErrEscape", Rows.laid_trawl_api_ErrEscape), ("trawl/api.ErrRepeat", Rows.laid_trawl_api_ErrRepeat), ("trawl/api.ErrTooBig", Rows.laid_trawl_api_ErrTooBig), ("trawl/api.ErrNest", Rows.laid_trawl_api_ErrNest), ("trawl/api.ErrLong", Rows.laid_trawl_api_ErrLong), ("trawl/api.ErrTree", Rows.laid_trawl_api_ErrTree), ("trawl/api.ErrDeep", Rows.laid_trawl_api_ErrDeep), ("trawl/api.ErrArgument", Rows.laid_trawl_api_ErrArgument), ("trawl/api.ErrNoMatch", Rows.laid_trawl_api_ErrNoMatch), ("trawl/api.ErrImage", Rows.laid_trawl_api_ErrImage), ("trawl/api.ErrMany", Rows.laid_trawl_api_ErrMany), ("trawl/api.ErrOption", Rows.laid_trawl_api_ErrOption), ("trawl/api.ErrCommand", Rows.laid_trawl_api_ErrCommand), ("trawl/api.ErrClosed", Rows.laid_trawl_api_ErrClosed)]
theorem errs_one {W : World} {l : List (String × DataW Unit)} (h : laidMet Tryz.prog l W) (hl : ∀ x, x ∈ errList → x ∈ l) : ∀ k, k < 21 → ∃ a, Sent W (errVars.getD k 0) (errPre ++ errWords.getD k []) a
  | 0, _ => sent_of h (hl _ (show ("trawl/api.ErrBracket", sentDatum (errPre ++ errWords.getD 0 [])) ∈ errList from List.mem_cons_self)) (by kernel_rfl) (by kernel_rfl)
  | 1, _ => sent_of h (hl _ (show ("trawl/api.ErrParen", sentDatum (errPre ++ errWords.getD 1 [])) ∈ errList from (List.mem_cons_of_mem _ List.mem_cons_self))) (by kernel_rfl) (by kernel_rfl)
  | 2, _ => sent_of h (hl _ (show ("trawl/api.ErrBrace", sentDatum (errPre ++ errWords.getD 2 [])) ∈ errList from (List.mem_cons_of_mem _ (List.mem_cons_of_mem _ List.mem_cons_self)))) (by kernel_rfl) (by kernel_rfl)
  | 3, _ => sent_of h (hl _ (show ("trawl/api.ErrCount", sentDatum (errPre ++ errWords.getD 3 [])) ∈ errList from (List.mem_cons_of_mem _ (List.mem_cons_of_mem _ (List.mem_cons_of_mem _ List.mem_cons_self))))) (by kernel_rfl) (by kernel_rfl)
  | 4, _ => sent_of h (hl _ (show ("trawl/api.ErrRange", sentDatum (errPre ++ errWords.getD 4 [])) ∈ errList from (List.mem_cons_of_mem _ (List.mem_cons_of_mem _ (List.mem_cons_of_mem _ (List.mem_cons_of_mem _ List.mem_cons_self)))))) (by kernel_rfl) (by kernel_rfl)
  | 5, _ => sent_of h (hl _ (show ("trawl/api.ErrClass", sentDatum (errPre ++ errWords.getD 5 [])) ∈ errList from (List.mem_cons_of_mem _ (List.mem_cons_of_mem _ (List.mem_cons_of_mem _ (List.mem_cons_of_mem _ (List.mem_cons_of_mem _ List.mem_cons_self))))))) (by kernel_rfl) (by kernel_rfl)
  | 6, _ => sent_of h (hl _ (show ("trawl/api.ErrCollate", sentDatum (errPre ++ errWords.getD 6 [])) ∈ errList from (List.mem_cons_of_mem _ (List.mem_cons_of_mem _ (List.mem_cons_of_mem _ (List.mem_cons_of_mem _ (List.mem_cons_of_mem _ (List.mem_cons_of_mem _ List.mem_cons_self)))))))) (by kernel_rfl) (by kernel_rfl)
  | 7, _ => sent_of h (hl _ (show ("trawl/api.ErrEscape", sentDatum (errPre ++ errWords.getD 7 [])) ∈ errList from (List.mem_cons_of_mem _ (List.mem_cons_of_mem _ (List.mem_cons_of_mem _ (List.mem_cons_of_mem _ (List.mem_cons_of_mem _ (List.mem_cons_of_mem _ (List.mem_cons_of_mem _ List.mem_cons_self))))))))) (by kernel_rfl) (by kernel_rfl)
  | 8, _ => sent_of h (hl _ (show ("trawl/api.ErrRepeat", sentDatum (errPre ++ errWords.getD 8 [])) ∈ errList from (List.mem_cons_of_mem _ (List.mem_cons_of_mem _ (List.mem_cons_of_mem _ (List.mem_cons_of_mem _ (List.mem_cons_of_mem _ (List.mem_cons_of_mem _ (List.mem_cons_of_mem _ (List.mem_cons_of_mem _ List.mem_cons_self)))))))))) (by kernel_rfl) (by kernel_rfl)
  | 9, _ => sent_of h (hl _ (show ("trawl/api.ErrTooBig", sentDatum (errPre ++ errWords.getD 9 [])) ∈ errList from (List.mem_cons_of_mem _ (List.mem_cons_of_mem _ (List.mem_cons_of_mem _ (List.mem_cons_of_mem _ (List.mem_cons_of_mem _ (List.mem_cons_of_mem _ (List.mem_cons_of_mem _ (List.mem_cons_of_mem _ (List.mem_cons_of_mem _ List.mem_cons_self))))))))))) (by kernel_rfl) (by kernel_rfl)
  | 10, _ => sent_of h (hl _ (show ("trawl/api.ErrNest", sentDatum (errPre ++ errWords.getD 10 [])) ∈ errList from (List.mem_cons_of_mem _ (List.mem_cons_of_mem _ (List.mem_cons_of_mem _ (List.mem_cons_of_mem _ (List.mem_cons_of_mem _ (List.mem_cons_of_mem _ (List.mem_cons_of_mem _ (List.mem_cons_of_mem _ (List.mem_cons_of_mem _ (List.mem_cons_of_mem _ List.mem_cons_self)))))))))))) (by kernel_rfl) (by kernel_rfl)
  | 11, _ => sent_of h (hl _ (show ("trawl/api.ErrLong", sentDatum (errPre ++ errWords.getD 11 [])) ∈ errList from (List.mem_cons_of_mem _ (List.mem_cons_of_mem _ (List.mem_cons_of_mem _ (List.mem_cons_of_mem _ (List.mem_cons_of_mem _ (List.mem_cons_of_mem _ (List.mem_cons_of_mem _ (List.mem_cons_of_mem _ (List.mem_cons_of_mem _ (List.mem_cons_of_mem _ (List.mem_cons_of_mem _ List.mem_cons_self))))))))))))) (by kernel_rfl) (by kernel_rfl)
  | 12, _ => sent_of h (hl _ (show ("trawl/api.ErrTree", sentDatum (errPre ++ errWords.getD 12 [])) ∈ errList from (List.mem_cons_of_mem _ (List.mem_cons_of_mem _ (List.mem_cons_of_mem _ (List.mem_cons_of_mem _ (List.mem_cons_of_mem _ (List.mem_cons_of_mem _ (List.mem_cons_of_mem _ (List.mem_cons_of_mem _ (List.mem_cons_of_mem _ (List.mem_cons_of_mem _ (List.mem_cons_of_mem _ (List.mem_cons_of_mem _ List.mem_cons_self)))))))))))))) (by kernel_rfl) (by kernel_rfl)
  | 13, _ => sent_of h (hl _ (show ("trawl/api.ErrDeep", sentDatum (errPre ++ errWords.getD 13 [])) ∈ errList from (List.mem_cons_of_mem _ (List.mem_cons_of_mem _ (List.mem_cons_of_mem _ (List.mem_cons_of_mem _ (List.mem_cons_of_mem _ (List.mem_cons_of_mem _ (List.mem_cons_of_mem _ (List.mem_cons_of_mem _ (List.mem_cons_of_mem _ (List.mem_cons_of_mem _ (List.mem_cons_of_mem _ (List.mem_cons_of_mem _ (List.mem_cons_of_mem _ List.mem_cons_self))))))))))))))) (by kernel_rfl) (by kernel_rfl)
  | 14, _ => sent_of h (hl _ (show ("trawl/api.ErrArgument", sentDatum (errPre ++ errWords.getD 14 [])) ∈ errList from (List.mem_cons_of_mem _ (List.mem_cons_of_mem _ (List.mem_cons_of_mem _ (List.mem_cons_of_mem _ (List.mem_cons_of_mem _ (List.mem_cons_of_mem _ (List.mem_cons_of_mem _ (List.mem_cons_of_mem _ (List.mem_cons_of_mem _ (List.mem_cons_of_mem _ (List.mem_cons_of_mem _ (List.mem_cons_of_mem _ (List.mem_cons_of_mem _ (List.mem_cons_of_mem _ List.mem_cons_self)))))))))))))))) (by kernel_rfl) (by kernel_rfl)
  | 15, _ => sent_of h (hl _ (show ("trawl/api.ErrNoMatch", sentDatum (errPre ++ errWords.getD 15 [])) ∈ errList from (List.mem_cons_of_mem _ (List.mem_cons_of_mem _ (List.mem_cons_of_mem _ (List.mem_cons_of_mem _ (List.mem_cons_of_mem _ (List.mem_cons_of_mem _ (List.mem_cons_of_mem _ (List.mem_cons_of_mem _ (List.mem_cons_of_mem _ (List.mem_cons_of_mem _ (List.mem_cons_of_mem _ (List.mem_cons_of_mem _ (List.mem_cons_of_mem _ (List.mem_cons_of_mem _ (List.mem_cons_of_mem _ List.mem_cons_self))))))))))))))))) (by kernel_rfl) (by kernel_rfl)
  | 16, _ => sent_of h (hl _ (show ("trawl/api.ErrImage", sentDatum (errPre ++ errWords.getD 16 [])) ∈ errList from (List.mem_cons_of_mem _ (List.mem_cons_of_mem _ (List.mem_cons_of_mem _ (List.mem_cons_of_mem _ (List.mem_cons_of_mem _ (List.mem_cons_of_mem _ (List.mem_cons_of_mem _ (List.mem_cons_of_mem _ (List.mem_cons_of_mem _ (List.mem_cons_of_mem _ (List.mem_cons_of_mem _ (List.mem_cons_of_mem _ (List.mem_cons_of_mem _ (List.mem_cons_of_mem _ (List.mem_cons_of_mem _ (List.mem_cons_of_mem _ List.mem_cons_self)))))))))))))))))) (by kernel_rfl) (by kernel_rfl)
  | 17, _ => sent_of h (hl _ (show ("trawl/api.ErrMany", sentDatum (errPre ++ errWords.getD 17 [])) ∈ errList from (List.mem_cons_of_mem _ (List.mem_cons_of_mem _ (List.mem_cons_of_mem _ (List.mem_cons_of_mem _ (List.mem_cons_of_mem _ (List.mem_cons_of_mem _ (List.mem_cons_of_mem _ (List.mem_cons_of_mem _ (List.mem_cons_of_mem _ (List.mem_cons_of_mem _ (List.mem_cons_of_mem _ (List.mem_cons_of_mem _ (List.mem_cons_of_mem _ (List.mem_cons_of_mem _ (List.mem_cons_of_mem _ (List.mem_cons_of_mem _ (List.mem_cons_of_mem _ List.mem_cons_self))))))))))))))))))) (by kernel_rfl) (by kernel_rfl)
  | 18, _ => sent_of h (hl _ (show ("trawl/api.ErrOption", sentDatum (errPre ++ errWords.getD 18 [])) ∈ errList from (List.mem_cons_of_mem _ (List.mem_cons_of_mem _ (List.mem_cons_of_mem _ (List.mem_cons_of_mem _ (List.mem_cons_of_mem _ (List.mem_cons_of_mem _ (List.mem_cons_of_mem _ (List.mem_cons_of_mem _ (List.mem_cons_of_mem _ (List.mem_cons_of_mem _ (List.mem_cons_of_mem _ (List.mem_cons_of_mem _ (List.mem_cons_of_mem _ (List.mem_cons_of_mem _ (List.mem_cons_of_mem _ (List.mem_cons_of_mem _ (List.mem_cons_of_mem _ (List.mem_cons_of_mem _ List.mem_cons_self)))))))))))))))))))) (by kernel_rfl) (by kernel_rfl)
  | 19, _ => sent_of h (hl _ (show ("trawl/api.ErrCommand", sentDatum (errPre ++ errWords.getD 19 [])) ∈ errList from (List.mem_cons_of_mem _ (List.mem_cons_of_mem _ (List.mem_cons_of_mem _ (List.mem_cons_of_mem _ (List.mem_cons_of_mem _ (List.mem_cons_of_mem _ (List.mem_cons_of_mem _ (List.mem_cons_of_mem _ (List.mem_cons_of_mem _ (List.mem_cons_of_mem _ (List.mem_cons_of_mem _ (List.mem_cons_of_mem _ (List.mem_cons_of_mem _ (List.mem_cons_of_mem _ (List.mem_cons_of_mem _ (List.mem_cons_of_mem _ (List.mem_cons_of_mem _ (List.mem_cons_of_mem _ (List.mem_cons_of_mem _ List.mem_cons_self))))))))))))))))))))) (by kernel_rfl) (by kernel_rfl)
  | 20, _ => sent_of h (hl _ (show ("trawl/api.ErrClosed", sentDatum (errPre ++ errWords.getD 20 [])) ∈ errList from (List.mem_cons_of_mem _ (List.mem_cons_of_mem _ (List.mem_cons_of_mem _ (List.mem_cons_of_mem _ (List.mem_cons_of_mem _ (List.mem_cons_of_mem _ (List.mem_cons_of_mem _ (List.mem_cons_of_mem _ (List.mem_cons_of_mem _ (List.mem_cons_of_mem _ (List.mem_cons_of_mem _ (List.mem_cons_of_mem _ (List.mem_cons_of_mem _ (List.mem_cons_of_mem _ (List.mem_cons_of_mem _ (List.mem_cons_of_mem _ (List.mem_cons_of_mem _ (List.mem_cons_of_mem _ (List.mem_cons_of_mem _ (List.mem_cons_of_mem _ List.mem_cons_self)))))))))))))))))))))) (by kernel_rfl) (by kernel_rfl)
  | k + 21, hk => absurd hk (by omega)
theorem errs_of {W : World} {l : List (String × DataW Unit)} (h : laidMet Tryz.prog l W) (hl : ∀ x, x ∈ errList → x ∈ l) : ∃ A, Errs W A := by
  have k := errs_one h hl
  exact ⟨fun i => if h : i < 21 then Classical.choose (k i h) else ⟨0, 0, none⟩, fun i hi => by
    show Sent W _ _ (dite _ _ _)
    rw [dif_pos hi]; exact Classical.choose_spec (k i hi)⟩
end Go.Proofs.YtlbhbjmobcikfaaGreatDoor
/- The list of the twenty-one sentinels. -/
namespace Go.Proofs.YtlbhbjmobcikfaaGreatDoor
open Go.RowKit
def errCells (A : Nat → Addr) : Array Value := #[.iface 184 (.pointer (some (A 0))), .iface 184 (.pointer (some (A 1))), .iface 184 (.pointer (some (A 2))), .iface 184 (.pointer (some (A 3))), .iface 184 (.pointer (some (A 4))), .iface 184 (.pointer (some (A 5))), .iface 184 (.pointer (some (A 6))), .iface 184 (.pointer (some (A 7))), .iface 184 (.pointer (some (A 8))), .iface 184 (.pointer (some (A 9))), .iface 184 (.pointer (some (A 10))), .iface 184 (.pointer (some (A 11))), .iface 184 (.pointer (some (A 12))), .iface 184 (.pointer (some (A 13))), .iface 184 (.pointer (some (A 14))), .iface 184 (.pointer (some (A 15))), .iface 184 (.pointer (some (A 16))), .iface 184 (.pointer (some (A 17))), .iface 184 (.pointer (some (A 18))), .iface 184 (.pointer (some (A 19))), .iface 184 (.pointer (some (A 20)))]
theorem errCells_get (A : Nat → Addr) : ∀ k, k < 21 → (errCells A)[k]? = some (.iface 184 (.pointer (some (A k))))
  | 0, _ => rfl
  | 1, _ => rfl
  | 2, _ => rfl
  | 3, _ => rfl
  | 4, _ => rfl
  | 5, _ => rfl
  | 6, _ => rfl
  | 7, _ => rfl
  | 8, _ => rfl
  | 9, _ => rfl
  | 10, _ => rfl
  | 11, _ => rfl
  | 12, _ => rfl
  | 13, _ => rfl
  | 14, _ => rfl
  | 15, _ => rfl
  | 16, _ => rfl
  | 17, _ => rfl
  | 18, _ => rfl
  | 19, _ => rfl
  | 20, _ => rfl
  | k + 21, hk => absurd hk (by omega)
end Go.Proofs.YtlbhbjmobcikfaaGreatDoor
/- trawlnum.Num: the number of a sentinel in any wrappings; 0 of nil. -/
namespace Go.Proofs.YtlbhbjmobcikfaaGreatDoor
open Go.RowKit Go.Extern.Stop Go.Stop Go.Extern
/-- What has been found behind the first i sentinels. -/
def found (k i : Nat) : Int := if k < i then (k : Int) + 1 else -1
theorem found_no {k i : Nat} (h : i ≤ k) : found k i = -1 := by unfold found; rw [if_neg (by omega)]
theorem found_yes {k i : Nat} (h : k < i) : found k i = (k : Int) + 1 := by unfold found; rw [if_pos h]
set_option maxRecDepth 100000 in
set_option maxHeartbeats 4000000 in
theorem num_any (A : Nat → Addr) (k n : Nat) (v : Value) (w : World) (hA : Errs w A) (hk : k < 21) (hch : Chain w (A k) n v) :
    Calls Tryz.prog 14 #[v] w fun e w' => e = .returned (.int .i64 ((k : Int) + 1)) ∧ Below w.heap.size w w' := by
  have HA := Lib.hid hA
  obtain ⟨t, q, rfl⟩ := hch.iface
  have HC := Lib.hid hch
  clear hch
  have g0 : w.cell? ⟨1, 0, none⟩ = some (.iface 184 (.pointer (some (A 0)))) := (hA 0 (by omega)).1
  have g1 : w.cell? ⟨2, 0, none⟩ = some (.iface 184 (.pointer (some (A 1)))) := (hA 1 (by omega)).1
  have g2 : w.cell? ⟨3, 0, none⟩ = some (.iface 184 (.pointer (some (A 2)))) := (hA 2 (by omega)).1
  have g3 : w.cell? ⟨4, 0, none⟩ = some (.iface 184 (.pointer (some (A 3)))) := (hA 3 (by omega)).1
  have g4 : w.cell? ⟨5, 0, none⟩ = some (.iface 184 (.pointer (some (A 4)))) := (hA 4 (by omega)).1
  have g5 : w.cell? ⟨6, 0, none⟩ = some (.iface 184 (.pointer (some (A 5)))) := (hA 5 (by omega)).1
  have g6 : w.cell? ⟨7, 0, none⟩ = some (.iface 184 (.pointer (some (A 6)))) := (hA 6 (by omega)).1
  have g7 : w.cell? ⟨8, 0, none⟩ = some (.iface 184 (.pointer (some (A 7)))) := (hA 7 (by omega)).1
  have g8 : w.cell? ⟨9, 0, none⟩ = some (.iface 184 (.pointer (some (A 8)))) := (hA 8 (by omega)).1
  have g9 : w.cell? ⟨10, 0, none⟩ = some (.iface 184 (.pointer (some (A 9)))) := (hA 9 (by omega)).1
  have g10 : w.cell? ⟨11, 0, none⟩ = some (.iface 184 (.pointer (some (A 10)))) := (hA 10 (by omega)).1
  have g11 : w.cell? ⟨0, 0, none⟩ = some (.iface 184 (.pointer (some (A 11)))) := (hA 11 (by omega)).1
  have g12 : w.cell? ⟨12, 0, none⟩ = some (.iface 184 (.pointer (some (A 12)))) := (hA 12 (by omega)).1
  have g13 : w.cell? ⟨13, 0, none⟩ = some (.iface 184 (.pointer (some (A 13)))) := (hA 13 (by omega)).1
  have g14 : w.cell? ⟨14, 0, none⟩ = some (.iface 184 (.pointer (some (A 14)))) := (hA 14 (by omega)).1
  have g15 : w.cell? ⟨15, 0, none⟩ = some (.iface 184 (.pointer (some (A 15)))) := (hA 15 (by omega)).1
  have g16 : w.cell? ⟨16, 0, none⟩ = some (.iface 184 (.pointer (some (A 16)))) := (hA 16 (by omega)).1
  have g17 : w.cell? ⟨17, 0, none⟩ = some (.iface 184 (.pointer (some (A 17)))) := (hA 17 (by omega)).1
  have g18 : w.cell? ⟨18, 0, none⟩ = some (.iface 184 (.pointer (some (A 18)))) := (hA 18 (by omega)).1
  have g19 : w.cell? ⟨19, 0, none⟩ = some (.iface 184 (.pointer (some (A 19)))) := (hA 19 (by omega)).1
  have g20 : w.cell? ⟨20, 0, none⟩ = some (.iface 184 (.pointer (some (A 20)))) := (hA 20 (by omega)).1
  clear hA
  go_enter Tryz.func14, Tryz.ntmps14
  go_wp2_with fail
  generalize hW0 : World.alloc w _ = W
  have e0 : W.heap[w.heap.size]? = some (.cells (errCells A) 30) := by rw [← hW0]; exact heap_alloc_new _ _
  have hbW : Below w.heap.size w W := by rw [← hW0]; exact (Below.refl _ _).alloc (Nat.le_refl _) _
  have hszW : W.heap.size = w.heap.size + 1 := by rw [← hW0]; simp
  have E0 := Lib.hid e0
  clear hW0 e0 g0 g1 g2 g3 g4 g5 g6 g7 g8 g9 g10 g11 g12 g13 g14 g15 g16 g17 g18 g19 g20
  have HW := Lib.hid (HA.out.below hbW)
  have HCW := Lib.hid (HC.out.of_cells (w' := W) fun p x hx => (hbW.cell (p := ⟨p, 1, none⟩) (block_lt_of_cell hx)).trans hx)
  clear HA HC
  have HF : Hid (found k 0 = -1) := Lib.hid (found_no (Nat.zero_le _))
  go_loopw [33, 4] (fun i f wr => ∃ m : Nat, i = .int .i64 m ∧ m ≤ 21 ∧ f = .int .i64 (found k m) ∧ wr = W) (fun i _ _ => 21 - (intOf i).toNat)
  case atStart => exact ⟨0, rfl, Nat.zero_le _, by rw [HF.out], rfl⟩
  case round =>
    obtain ⟨m, rfl, hm, rfl, rfl⟩ := hrel
    by_cases hlt : m < 21
    · have hma := HW.out m hlt
      have hka := HW.out k hk
      have l0 : wr.cell? ⟨w.heap.size, m, none⟩ = some (.iface 184 (.pointer (some (A m)))) := by simp only [World.cell?, E0.out]; exact errCells_get A m hlt
      obtain ⟨-, -, -, -, c1, ty1, r1⟩ := hma
      obtain ⟨-, -, -, -, c2, ty2, r2⟩ := hka
      have his := is_any (A k) (A m) n (.iface t q) wr HCW.out c2 c1 ty2 ty1 r2 r1
      have HIS := Lib.hid his
      clear his r1 r2
      have hmm : IntKind.i64.wrap ((m : Int) + 1) = (m : Int) + 1 := IntWalk.i64_in _ (by omega)
      rcases Nat.lt_trichotomy m k with h | h | h
      · have hd : decide (A k = A m) = false := by simpa using Errs.apart HW.out hk hlt (by omega)
        rw [hd] at HIS
        rw [found_no (Nat.le_of_lt h)]
        have HN := Lib.hid (found_no (show m + 1 ≤ k by omega))
        clear hd
        go_wp2_with (go_at_call 33; refine HIS.out.mono ?_; rintro e w' ⟨rfl, rfl⟩)
        exact ⟨⟨m + 1, by go_num, by omega, by rw [HN.out], trivial⟩, by simp [intOf]; omega⟩
      · subst h
        have hd : decide (A m = A m) = true := by simp
        rw [hd] at HIS
        rw [found_no (Nat.le_refl _)]
        have HN := Lib.hid (found_yes (show m < m + 1 by omega))
        clear hd
        go_wp2_with (go_at_call 33; refine HIS.out.mono ?_; rintro e w' ⟨rfl, rfl⟩)
        exact ⟨⟨m + 1, by go_num, by omega, by rw [HN.out], trivial⟩, by simp [intOf]; omega⟩
      · have hd : decide (A k = A m) = false := by simpa using Errs.apart HW.out hk hlt (by omega)
        rw [hd] at HIS
        rw [found_yes h]
        have HN := Lib.hid (found_yes (show k < m + 1 by omega))
        clear hd
        go_wp2_with (go_at_call 33; refine HIS.out.mono ?_; rintro e w' ⟨rfl, rfl⟩)
        exact ⟨⟨m + 1, by go_num, by omega, by rw [HN.out], trivial⟩, by simp [intOf]; omega⟩
    · obtain rfl : m = 21 := by omega
      rw [found_yes hk]
      go_wp2
      go_ret
      exact ⟨rfl, hbW⟩
end Go.Proofs.YtlbhbjmobcikfaaGreatDoor
/- errors.As for a *api.Fault, a *api.Listed: the outermost one of any number of wrappings. -/
namespace Go.Proofs.YtlbhbjmobcikfaaGreatDoor
open Go.RowKit Go.Extern.Stop Go.Stop Go.Extern
/-- An error that wraps another one, link by link, the outermost first: which kind (Listed?), its number, its block. -/
inductive Wrapped (w : World) (base : Value) : List (Bool × Int × Nat) → Value → Prop
  | base : Wrapped w base [] base
  | fault {l : List (Bool × Int × Nat)} {v : Value} (n : Int) (p : Nat) (h0 : w.cell? ⟨p, 0, none⟩ = some (.int .i64 n)) (h1 : w.cell? ⟨p, 1, none⟩ = some v) (k : Wrapped w base l v) : Wrapped w base ((false, n, p) :: l) (.iface 65 (.pointer (some ⟨p, 0, none⟩)))
theorem Wrapped.later {w w' : World} {base : Value} {l : List (Bool × Int × Nat)} {v : Value} (h : Wrapped w base l v) (hb : Below w.heap.size w w') : Wrapped w' base l v := by
  have key : ∀ (p o : Nat) (x : Value), w.cell? ⟨p, o, none⟩ = some x → w'.cell? ⟨p, o, none⟩ = some x := fun p o x hx => (hb.cell (p := ⟨p, o, none⟩) (block_lt_of_cell hx)).trans hx
  induction h with
  | base => exact .base
  | fault n p h0 h1 k ih => exact .fault n p (key _ _ _ h0) (key _ _ _ h1) ih
theorem Wrapped.chain {w : World} {a : Addr} {l : List (Bool × Int × Nat)} {v : Value} (h : Wrapped w (.iface 184 (.pointer (some a))) l v) : Chain w a l.length v := by
  generalize hb : Value.iface 184 (.pointer (some a)) = b at h
  induction h with
  | base => subst hb; exact .base
  | fault n p h0 h1 k ih => exact .fault p h1 ih
/-- The outermost link of a kind. -/
def firstOf (k : Bool) : List (Bool × Int × Nat) → Option (Int × Nat)
  | [] => none
  | x :: l => if x.1 = k then some x.2 else firstOf k l
/-- How errors.As ends. -/
def AsEnd (k : Bool) (l : List (Bool × Int × Nat)) (t : Addr) (w : World) (e : Ending) (w' : World) : Prop :=
  match firstOf k l with
  | some x => e = .returned (.bool true) ∧ ∃ w1, Below w.heap.size w w1 ∧ w' = w1.setCell t (.pointer (some ⟨x.2, 0, none⟩))
  | none => e = .returned (.bool false) ∧ Below w.heap.size w w'
theorem asEnd_none {k : Bool} {l : List (Bool × Int × Nat)} {t : Addr} {w w' : World} (h : firstOf k l = none) (hb : Below w.heap.size w w') : AsEnd k l t w (.returned (.bool false)) w' := by
  unfold AsEnd; rw [h]; exact ⟨rfl, hb⟩
theorem asEnd_some {k : Bool} {l : List (Bool × Int × Nat)} {t : Addr} {w w1 : World} {x : Int × Nat} (h : firstOf k l = some x) (hb : Below w.heap.size w w1) : AsEnd k l t w (.returned (.bool true)) (w1.setCell t (.pointer (some ⟨x.2, 0, none⟩))) := by
  unfold AsEnd; rw [h]; exact ⟨rfl, w1, hb, rfl⟩
theorem asEnd_no {k : Bool} {l : List (Bool × Int × Nat)} {t : Addr} {w w' : World} {e : Ending} (h : firstOf k l = none) (he : AsEnd k l t w e w') : e = .returned (.bool false) ∧ Below w.heap.size w w' := by
  unfold AsEnd at he; rw [h] at he; exact he
theorem asEnd_yes {k : Bool} {l : List (Bool × Int × Nat)} {t : Addr} {w w' : World} {e : Ending} {x : Int × Nat} (h : firstOf k l = some x) (he : AsEnd k l t w e w') : e = .returned (.bool true) ∧ ∃ w1, Below w.heap.size w w1 ∧ w' = w1.setCell t (.pointer (some ⟨x.2, 0, none⟩)) := by
  unfold AsEnd at he; rw [h] at he; exact he
theorem Wrapped.iface {w : World} {a : Addr} {l : List (Bool × Int × Nat)} {v : Value} (h : Wrapped w (.iface 184 (.pointer (some a))) l v) : ∃ t p, v = .iface t p := by cases h <;> exact ⟨_, _, rfl⟩
theorem Tryz.asKindM (n : Nat) (h : Value) (w : World) : (Go.method (n + 1) 108 (.agg #[h]) "Kind").run Tryz.prog w = .ok (187, h) w := by kernel_rfl
theorem Tryz.asElemM (n : Nat) (h : Value) (w : World) : (Go.method (n + 1) 108 (.agg #[h]) "Elem").run Tryz.prog w = .ok (198, .agg #[h]) w := by kernel_rfl
theorem Tryz.asImplM (n : Nat) (h : Value) (w : World) : (Go.method (n + 1) 108 (.agg #[h]) "Implements").run Tryz.prog w = .ok (199, .agg #[h]) w := by kernel_rfl
theorem Tryz.asAssM (n : Nat) (h : Value) (w : World) : (Go.method (n + 1) 108 (.agg #[h]) "AssignableTo").run Tryz.prog w = .ok (196, .agg #[h]) w := by kernel_rfl
theorem Tryz.asTypeOfE {N : Nat} (hN : N = Tryz.prog.globals.size) (v : Value) (w : World) : (ReflectliteType.typeOf #[.iface 184 v]).run Tryz.prog w = .ok (.iface 108 (.agg #[.pointer (some ⟨N, 184, none⟩)])) w := by subst hN; kernel_rfl
theorem Tryz.asLacksE (v : Value) (xT : TypeId) (w : World) : (Instr.typeAssert (.iface 184 v) xT 119 true).run Tryz.prog w = .ok (.tuple #[.nilIface, .bool false]) w := run_typeAssert_lacksB Tryz.underlying119 (by kernel_rfl) (by kernel_rfl) v xT w
theorem Tryz.asTypeOfF {N : Nat} (hN : N = Tryz.prog.globals.size) (v : Value) (w : World) : (ReflectliteType.typeOf #[.iface 65 v]).run Tryz.prog w = .ok (.iface 108 (.agg #[.pointer (some ⟨N, 65, none⟩)])) w := by subst hN; kernel_rfl
theorem Tryz.asLacksF (v : Value) (xT : TypeId) (w : World) : (Instr.typeAssert (.iface 65 v) xT 119 true).run Tryz.prog w = .ok (.tuple #[.nilIface, .bool false]) w := run_typeAssert_lacksB Tryz.underlying119 (by kernel_rfl) (by kernel_rfl) v xT w
theorem Tryz.asValuePF {N : Nat} (hN : N = Tryz.prog.globals.size) (t : Addr) (w : World) : (ReflectliteValue.unpack (.iface 67 (.pointer (some t)))).run Tryz.prog w = .ok (.agg #[.pointer (some ⟨N, 67, none⟩), .pointer (some ⟨w.heap.size, 0, none⟩), .int .u64 150]) (w.alloc (.cells #[.pointer (some t)] 67)) := by subst hN; kernel_rfl
theorem Tryz.asTypePF {N : Nat} (hN : N = Tryz.prog.globals.size) (a : Addr) (w : World) : (ReflectliteValue.methodAny (ReflectliteValue.valueError "reflectlite.Value.Type" 0) (fun t _ _ _ => ReflectliteType.toType t) #[.agg #[.pointer (some ⟨N, 67, none⟩), .pointer (some a), .int .u64 150]]).run Tryz.prog w = .ok (.iface 108 (.agg #[.pointer (some ⟨N, 67, none⟩)])) w := by subst hN; kernel_rfl
theorem Tryz.asKindPF {N : Nat} (hN : N = Tryz.prog.globals.size) (w : World) : ((ReflectliteType.abiMethod fun t => (fun a : Nat => Value.int IntKind.u8 (a : Int)) <$> Rtype.kind t) #[.pointer (some ⟨N, 67, none⟩)]).run Tryz.prog w = .ok (.int .u8 22) w := by subst hN; kernel_rfl
theorem Tryz.asKindF {N : Nat} (hN : N = Tryz.prog.globals.size) (w : World) : ((ReflectliteType.abiMethod fun t => (fun a : Nat => Value.int IntKind.u8 (a : Int)) <$> Rtype.kind t) #[.pointer (some ⟨N, 65, none⟩)]).run Tryz.prog w = .ok (.int .u8 22) w := by subst hN; kernel_rfl
theorem Tryz.asPartsPF {N : Nat} (hN : N = Tryz.prog.globals.size) (a : Addr) (w : World) : (ReflectliteValue.parts (.agg #[.pointer (some ⟨N, 67, none⟩), .pointer (some a), .int .u64 150])).run Tryz.prog w = .ok (some (67, a, 150)) w := by subst hN; kernel_rfl
theorem Tryz.asIsNilF {N : Nat} (hN : N = Tryz.prog.globals.size) (a p : Addr) (W : World) (ha : W.cell? a = some (.pointer (some p))) :
    (ReflectliteValue.method (ReflectliteValue.valueError "reflectlite.Value.IsNil" 0) ReflectliteValue.isNil #[.agg #[.pointer (some ⟨N, 67, none⟩), .pointer (some a), .int .u64 150]]).run Tryz.prog W = .ok (.bool false) W := by
  delta ReflectliteValue.method ReflectliteValue.method.match_2
  simp only [List.size_toArray, List.length_cons, List.length_nil, Nat.reduceAdd, ↓reduceDIte, Array.getLit, List.getElem_toArray, List.getElem_cons_zero]
  simp only [Sem.run_bind, Tryz.asPartsPF hN, Result.andThen]
  simp [ReflectliteValue.isNil, loadVar, isAgg, underlying, Tryz.underlying67, ha, Result.andThen]
theorem Tryz.asElemF {N : Nat} (hN : N = Tryz.prog.globals.size) (w : World) : (ReflectliteType.method ReflectliteType.elem #[.agg #[.pointer (some ⟨N, 67, none⟩)]]).run Tryz.prog w = .ok (.iface 108 (.agg #[.pointer (some ⟨N, 65, none⟩)])) w := by subst hN; kernel_rfl
theorem Tryz.asImplF {N : Nat} (hN : N = Tryz.prog.globals.size) (w : World) : (ReflectliteType.relation "Implements" ReflectliteType.implements_ #[.agg #[.pointer (some ⟨N, 65, none⟩)], .iface 108 (.agg #[.pointer (some ⟨N, 30, none⟩)])]).run Tryz.prog w = .ok (.bool true) w := by subst hN; kernel_rfl
theorem Tryz.asValueF {N : Nat} (hN : N = Tryz.prog.globals.size) (e : Addr) (w : World) : (ReflectliteValue.unpack (.iface 65 (.pointer (some e)))).run Tryz.prog w = .ok (.agg #[.pointer (some ⟨N, 65, none⟩), .pointer (some ⟨w.heap.size, 0, none⟩), .int .u64 150]) (w.alloc (.cells #[.pointer (some e)] 65)) := by subst hN; kernel_rfl
theorem Tryz.asElemOfF (w : World) : (Rtype.elem? 67).run Tryz.prog w = .ok (some 65) w := by kernel_rfl
theorem Tryz.asMkF {N : Nat} (hN : N = Tryz.prog.globals.size) (p : Addr) (w : World) : (ReflectliteValue.mk 65 p ReflectliteValue.flagAddr).run Tryz.prog w = .ok (.agg #[.pointer (some ⟨N, 65, none⟩), .pointer (some p), .int .u64 406]) w := by subst hN; kernel_rfl
theorem Tryz.asElemVF {N : Nat} (hN : N = Tryz.prog.globals.size) (a p : Addr) (W : World) (ha : W.cell? a = some (.pointer (some p))) :
    (ReflectliteValue.method (ReflectliteValue.valueError "reflectlite.Value.Elem" 0) ReflectliteValue.elem #[.agg #[.pointer (some ⟨N, 67, none⟩), .pointer (some a), .int .u64 150]]).run Tryz.prog W = .ok (.agg #[.pointer (some ⟨N, 65, none⟩), .pointer (some p), .int .u64 406]) W := by
  delta ReflectliteValue.method ReflectliteValue.method.match_2
  simp only [List.size_toArray, List.length_cons, List.length_nil, Nat.reduceAdd, ↓reduceDIte, Array.getLit, List.getElem_toArray, List.getElem_cons_zero]
  simp only [Sem.run_bind, Tryz.asPartsPF hN, Result.andThen]
  simp [ReflectliteValue.elem, loadVar, isAgg, underlying, Tryz.underlying67, ha, Result.andThen, Tryz.asElemOfF, Tryz.asMkF hN]
theorem Tryz.asPartsAF {N : Nat} (hN : N = Tryz.prog.globals.size) (a : Addr) (w : World) : (ReflectliteValue.parts (.agg #[.pointer (some ⟨N, 65, none⟩), .pointer (some a), .int .u64 406])).run Tryz.prog w = .ok (some (65, a, 406)) w := by subst hN; kernel_rfl
theorem Tryz.asPartsF {N : Nat} (hN : N = Tryz.prog.globals.size) (a : Addr) (w : World) : (ReflectliteValue.parts (.agg #[.pointer (some ⟨N, 65, none⟩), .pointer (some a), .int .u64 150])).run Tryz.prog w = .ok (some (65, a, 150)) w := by subst hN; kernel_rfl
theorem Tryz.asDirectF (w : World) : (Rtype.directlyAssignable 65 65).run Tryz.prog w = .ok true w := by kernel_rfl
theorem Tryz.asSetF {N : Nat} (hN : N = Tryz.prog.globals.size) (ta b e : Addr) (old : Value) (W : World) (hb : W.cell? b = some (.pointer (some e))) (ht : W.cell? ta = some old) (hf : W.frozen? ta = false) :
    (ReflectliteValue.set #[.agg #[.pointer (some ⟨N, 65, none⟩), .pointer (some ta), .int .u64 406], .agg #[.pointer (some ⟨N, 65, none⟩), .pointer (some b), .int .u64 150]]).run Tryz.prog W = .ok (.tuple #[]) (W.setCell ta (.pointer (some e))) := by
  delta ReflectliteValue.set ReflectliteValue.set.match_3
  simp only [List.size_toArray, List.length_cons, List.length_nil, Nat.reduceAdd, ↓reduceDIte, Array.getLit, List.getElem_toArray, List.getElem_cons_zero, List.getElem_cons_succ]
  simp only [Sem.run_bind, Tryz.asPartsAF hN, Tryz.asPartsF hN, Result.andThen]
  simp [ReflectliteValue.flagAddr, loadVar, isAgg, underlying, Tryz.underlying65, hb, Result.andThen, Tryz.asDirectF, storeVar, Value.cells, storeCells, Addr.add]
  rw [run_store Tryz.prog W ta _ _ (by rfl)]
  simp [ht, hf]
theorem Tryz.asAssFE {N : Nat} (hN : N = Tryz.prog.globals.size) (w : World) : (ReflectliteType.relation "AssignableTo" ReflectliteType.assignableTo #[.agg #[.pointer (some ⟨N, 184, none⟩)], .iface 108 (.agg #[.pointer (some ⟨N, 65, none⟩)])]).run Tryz.prog w = .ok (.bool false) w := by subst hN; kernel_rfl
theorem Tryz.asAssFF {N : Nat} (hN : N = Tryz.prog.globals.size) (w : World) : (ReflectliteType.relation "AssignableTo" ReflectliteType.assignableTo #[.agg #[.pointer (some ⟨N, 65, none⟩)], .iface 108 (.agg #[.pointer (some ⟨N, 65, none⟩)])]).run Tryz.prog w = .ok (.bool true) w := by subst hN; kernel_rfl
end Go.Proofs.YtlbhbjmobcikfaaGreatDoor
/- errors.As for a *api.Fault, a *api.Listed: the walks. -/
namespace Go.Proofs.YtlbhbjmobcikfaaGreatDoor
open Go.RowKit Go.Extern.Stop Go.Stop Go.Extern
set_option maxRecDepth 100000 in
set_option maxHeartbeats 4000000 in
theorem as_in_F {N : Nat} (hN : N = Tryz.prog.globals.size) (b a t : Addr) (l : List (Bool × Int × Nat)) (v : Value) (w : World) (hw : Wrapped w (.iface 184 (.pointer (some b))) l v) (ha : w.cell? a = some (.pointer (some t))) (old : Value) (ht : w.cell? t = some old) (hf : w.frozen? t = false) :
    Calls Tryz.prog 57 #[v, .iface 67 (.pointer (some t)), .agg #[.pointer (some ⟨N, 67, none⟩), .pointer (some a), .int .u64 150], .iface 108 (.agg #[.pointer (some ⟨N, 65, none⟩)])] w (AsEnd false l t w) := by
  have xTypeOf := @run_callFunc_extern Tryz.prog 52 _ ReflectliteType.typeOf Tryz.func52 (by kernel_rfl) (by kernel_rfl) (by kernel_rfl) (by kernel_rfl)
  have xValueOf := @run_callFunc_extern Tryz.prog 54 _ (fun args => ReflectliteValue.unpack (args.getD 0 (.tuple #[]))) Tryz.func54 (by kernel_rfl) (by kernel_rfl) (by kernel_rfl) (by kernel_rfl)
  have xAss := @run_callFunc_extern Tryz.prog 196 _ (ReflectliteType.relation "AssignableTo" ReflectliteType.assignableTo) Tryz.func196 (by kernel_rfl) (by kernel_rfl) (by kernel_rfl) (by kernel_rfl)
  have xElemV := @run_callFunc_extern Tryz.prog 75 _ (ReflectliteValue.method (ReflectliteValue.valueError "reflectlite.Value.Elem" 0) ReflectliteValue.elem) Tryz.func75 (by kernel_rfl) (by kernel_rfl) (by kernel_rfl) (by kernel_rfl)
  have xSet := @run_callFunc_extern Tryz.prog 76 _ ReflectliteValue.set Tryz.func76 (by kernel_rfl) (by kernel_rfl) (by kernel_rfl) (by kernel_rfl)
  have tE := Tryz.asTypeOfE hN; have tF := Tryz.asTypeOfF hN
  have lE := Tryz.asLacksE; have lF := Tryz.asLacksF
  have sE := Tryz.asAssFE hN; have sF := Tryz.asAssFF hN
  have mA := Tryz.asAssM
  have vK := Tryz.asValueF hN
  have uE := Tryz.noUnwrapE; have zE := Tryz.noUnwrapsE; have uF := Tryz.hasUnwrapF
  have mF := Tryz.methodUnwrapF
  have hlt := block_lt_of_cell ha
  have hltt := block_lt_of_cell ht
  obtain ⟨W, hW⟩ : ∃ W, W = w.alloc (.cells #[.pointer (some ⟨N, 67, none⟩), .pointer (some a), .int .u64 150] 90) := ⟨_, rfl⟩
  have hbW : Below w.heap.size w W := by rw [hW]; exact (Below.refl _ _).alloc (Nat.le_refl _) _
  have zW : W.heap[w.heap.size]? = some (.cells #[.pointer (some ⟨N, 67, none⟩), .pointer (some a), .int .u64 150] 90) := by rw [hW]; exact heap_alloc_new w _
  have eV := Tryz.asElemVF hN a t W ((hbW.cell hlt).trans ha)
  have hsW : w.heap.size < W.heap.size := by rw [hW]; simp
  have b0 : W.cell? ⟨w.heap.size, 0, none⟩ = some (.pointer (some ⟨N, 67, none⟩)) := by simp [World.cell?, zW]
  have b1 : W.cell? ⟨w.heap.size, 1, none⟩ = some (.pointer (some a)) := by simp [World.cell?, zW]
  have b2 : W.cell? ⟨w.heap.size, 2, none⟩ = some (.int .u64 150) := by simp [World.cell?, zW]
  have htW := (hbW.cell hltt).trans ht
  have hfW : W.frozen? t = false := (hbW.frozen hltt).trans hf
  have st := fun e : Addr => Tryz.asSetF hN t ⟨W.heap.size, 0, none⟩ e old (W.alloc (.cells #[.pointer (some e)] 65)) (by rw [cell_new]; rfl) (((Below.refl W.heap.size W).alloc (Nat.le_refl _) _).cell (by have := hbW.size; omega) |>.trans htW) (((Below.refl W.heap.size W).alloc (Nat.le_refl _) _).frozen (by have := hbW.size; omega) |>.trans hfW)
  have HW := Lib.hid (hw.later hbW); have HBW := Lib.hid hbW; have HWe := Lib.hid hW
  clear hw ha ht hf hbW zW htW hfW hN hW
  go_enter Tryz.func57, Tryz.ntmps57
  go_wp2_with fail
  rw [← HWe.out]
  go_loopg [0] l.length (fun k x wr => wr = W ∧ ∃ l', l'.length = k ∧ Hid (Wrapped W (.iface 184 (.pointer (some b))) l' x) ∧ Hid (firstOf false l' = firstOf false l))
  case atStart => exact ⟨rfl, l, rfl, HW, Lib.hid rfl⟩
  case round =>
    obtain ⟨rfl, l', hlen, HK, HFi⟩ := hrel
    have HK' := HK.out
    clear HK
    rcases HK' with _ | @⟨l1, v1, n, p, h0, h1, k⟩
    · go_wp2
      go_ret
      exact asEnd_none (HFi.out.symm.trans rfl) HBW.out
    · go_wp2
      go_ret
      exact asEnd_some (x := (n, p)) (HFi.out.symm.trans (by simp [firstOf])) (HBW.out.alloc HBW.out.size _)
end Go.Proofs.YtlbhbjmobcikfaaGreatDoor
/- errors.As for a *api.Fault, a *api.Listed: at the face. -/
namespace Go.Proofs.YtlbhbjmobcikfaaGreatDoor
open Go.RowKit Go.Extern.Stop Go.Stop Go.Extern
set_option maxRecDepth 100000 in
set_option maxHeartbeats 4000000 in
/-- errors.As: v wraps the error at b by the links l. -/
theorem as_any_F (b t : Addr) (l : List (Bool × Int × Nat)) (v : Value) (w : World) (hw : Wrapped w (.iface 184 (.pointer (some b))) l v) (hg : w.cell? ⟨21, 0, none⟩ = some (.iface 108 (.agg #[.pointer (some ⟨Tryz.prog.globals.size, 30, none⟩)]))) (old : Value) (ht : w.cell? t = some old) (hf : w.frozen? t = false) :
    Calls Tryz.prog 34 #[v, .iface 67 (.pointer (some t))] w (AsEnd false l t w) := by
  obtain ⟨N, hN⟩ : ∃ N, N = Tryz.prog.globals.size := ⟨_, rfl⟩
  rw [← hN] at hg
  have xValueOf := @run_callFunc_extern Tryz.prog 54 _ (fun args => ReflectliteValue.unpack (args.getD 0 (.tuple #[]))) Tryz.func54 (by kernel_rfl) (by kernel_rfl) (by kernel_rfl) (by kernel_rfl)
  have xType := @run_callFunc_extern Tryz.prog 55 _ (ReflectliteValue.methodAny (ReflectliteValue.valueError "reflectlite.Value.Type" 0) (fun t _ _ _ => ReflectliteType.toType t)) Tryz.func55 (by kernel_rfl) (by kernel_rfl) (by kernel_rfl) (by kernel_rfl)
  have xIsNil := @run_callFunc_extern Tryz.prog 56 _ (ReflectliteValue.method (ReflectliteValue.valueError "reflectlite.Value.IsNil" 0) ReflectliteValue.isNil) Tryz.func56 (by kernel_rfl) (by kernel_rfl) (by kernel_rfl) (by kernel_rfl)
  have xKind := @run_callFunc_extern Tryz.prog 187 _ (ReflectliteType.abiMethod fun t => do pure (.int .u8 (← Rtype.kind t))) Tryz.func187 (by kernel_rfl) (by kernel_rfl) (by kernel_rfl) (by kernel_rfl)
  have xElem := @run_callFunc_extern Tryz.prog 198 _ (ReflectliteType.method ReflectliteType.elem) Tryz.func198 (by kernel_rfl) (by kernel_rfl) (by kernel_rfl) (by kernel_rfl)
  have xImpl := @run_callFunc_extern Tryz.prog 199 _ (ReflectliteType.relation "Implements" ReflectliteType.implements_) Tryz.func199 (by kernel_rfl) (by kernel_rfl) (by kernel_rfl) (by kernel_rfl)
  have fV := Tryz.asValuePF hN
  have fT := Tryz.asTypePF hN
  have mK := Tryz.asKindM; have mE := Tryz.asElemM; have mI := Tryz.asImplM
  have kP := Tryz.asKindPF hN; have kT := Tryz.asKindF hN
  have eP := Tryz.asElemF hN; have iT := Tryz.asImplF hN
  obtain ⟨tv, q, rfl⟩ := hw.iface
  have hlg := block_lt_of_cell hg; have hlt := block_lt_of_cell ht
  have hb1 : Below w.heap.size w ((w.alloc (.cells #[.pointer (some t)] 67)).alloc (.cells #[.pointer (some ⟨N, 67, none⟩), .pointer (some ⟨w.heap.size, 0, none⟩), .int .u64 150] 90)) := ((Below.refl _ _).alloc (Nat.le_refl _) _).alloc (by simp) _
  have z1 := two_new w (.cells #[.pointer (some t)] 67) (.cells #[.pointer (some ⟨N, 67, none⟩), .pointer (some ⟨w.heap.size, 0, none⟩), .int .u64 150] 90)
  have n8 := Tryz.asIsNilF hN ⟨w.heap.size, 0, none⟩ t ((w.alloc (.cells #[.pointer (some t)] 67)).alloc (.cells #[.pointer (some ⟨N, 67, none⟩), .pointer (some ⟨w.heap.size, 0, none⟩), .int .u64 150] 90)) (by unfold World.cell?; rw [z1.1]; rfl)
  have ha1 : ((w.alloc (.cells #[.pointer (some t)] 67)).alloc (.cells #[.pointer (some ⟨N, 67, none⟩), .pointer (some ⟨w.heap.size, 0, none⟩), .int .u64 150] 90)).cell? ⟨w.heap.size, 0, none⟩ = some (.pointer (some t)) := by unfold World.cell?; rw [z1.1]; rfl
  have hg1 := (hb1.cell (p := ⟨21, 0, none⟩) hlg).trans hg
  have hin := as_in_F hN b ⟨w.heap.size, 0, none⟩ t l (.iface tv q) _ (hw.later hb1) ha1 old ((hb1.cell hlt).trans ht) ((hb1.frozen hlt).trans hf)
  have HIN := Lib.hid hin; have HB := Lib.hid hb1
  clear hin hb1 z1 ha1 hw ht hf hN hg
  go_enter Tryz.func34, Tryz.ntmps34
  cases hf : firstOf false l with
  | none =>
    go_wp2_with fail
    refine HIN.out.mono ?_
    intro e w' he
    obtain ⟨rfl, hb⟩ := asEnd_no hf he
    have hb2 := Lib.hid (HB.out.trans (hb.mono HB.out.size))
    clear he hb HIN HB
    go_wp2
    go_ret
    exact asEnd_none hf hb2.out
  | some x =>
    go_wp2_with fail
    refine HIN.out.mono ?_
    intro e w' he
    obtain ⟨rfl, w1, hb, rfl⟩ := asEnd_yes hf he
    have hb2 := Lib.hid (HB.out.trans (hb.mono HB.out.size))
    clear he hb HIN HB
    go_wp2
    go_ret
    exact asEnd_some hf hb2.out
end Go.Proofs.YtlbhbjmobcikfaaGreatDoor
/- The place and the index that an error tells; errors.Unwrap. -/
namespace Go.Proofs.YtlbhbjmobcikfaaGreatDoor
open Go.RowKit Go.Extern.Stop Go.Stop Go.Extern
theorem Wrapped.first {w : World} {base : Value} {l : List (Bool × Int × Nat)} {v : Value} (h : Wrapped w base l v) {k : Bool} {x : Int × Nat} (hf : firstOf k l = some x) : w.cell? ⟨x.2, 0, none⟩ = some (.int .i64 x.1) := by
  induction h with
  | base => simp [firstOf] at hf
  | fault n p h0 h1 _ ih =>
    unfold firstOf at hf
    split at hf
    · simp only [Option.some.injEq] at hf; subst hf; exact h0
    · exact ih hf
/-- The variable of package errors that errors.As reads. -/
def ErrType (w : World) : Prop := w.cell? ⟨21, 0, none⟩ = some (.iface 108 (.agg #[.pointer (some ⟨Tryz.prog.globals.size, 30, none⟩)]))
theorem ErrType.later {w w' : World} (h : ErrType w) (hb : Below w.heap.size w w') : ErrType w' := (hb.cell (p := ⟨21, 0, none⟩) (block_lt_of_cell h)).trans h
def numOf (o : Option (Int × Nat)) : Int := match o with | some x => x.1 | none => -1
set_option maxHeartbeats 2000000 in
theorem numplace_any (b : Addr) (l : List (Bool × Int × Nat)) (v : Value) (w : World) (hw : Wrapped w (.iface 184 (.pointer (some b))) l v) (hg : ErrType w) :
    Calls Tryz.prog 16 #[v] w fun e w' => e = .returned (.int .i64 (numOf (firstOf false l))) ∧ Below w.heap.size w w' := by
  have hb1 : Below w.heap.size w (w.alloc (.cells #[.pointer none] 65)) := (Below.refl _ _).alloc (Nat.le_refl _) _
  have z1 := heap_alloc_new w (.cells #[.pointer none] 65)
  have hAs := as_any_F b ⟨w.heap.size, 0, none⟩ l v _ (hw.later hb1) (hg.later hb1) (.pointer none) (by unfold World.cell?; rw [z1]; rfl) (by unfold World.frozen?; rw [z1]; simp)
  have HAS := Lib.hid hAs; have HB := Lib.hid hb1; have HW := Lib.hid hw
  clear hAs z1 hb1 hw hg
  cases hf : firstOf false l with
  | none =>
    go_enter Tryz.func16, Tryz.ntmps16
    go_wp2_with fail
    refine HAS.out.mono ?_
    intro e w' he
    obtain ⟨rfl, hb⟩ := asEnd_no hf he
    have hb2 := Lib.hid (HB.out.trans (hb.mono HB.out.size))
    clear he hb HAS HB
    go_wp2
    go_ret
    exact ⟨rfl, hb2.out⟩
  | some x =>
    have hx := HW.out.first hf
    have hlt := block_lt_of_cell hx
    obtain ⟨n, p⟩ := x
    go_enter Tryz.func16, Tryz.ntmps16
    go_wp2_with fail
    refine HAS.out.mono ?_
    intro e w' he
    obtain ⟨rfl, w1, hb, rfl⟩ := asEnd_yes hf he
    have hsz : w.heap.size < w1.heap.size := by have := hb.size; simp at this; omega
    have hb2 := HB.out.trans (hb.mono HB.out.size)
    have z1 : w1.heap[w.heap.size]? = some (.cells #[.pointer none] 65) := keep_blk hb (heap_alloc_new w _)
    have c1 : (w1.setCell ⟨w.heap.size, 0, none⟩ (.pointer (some ⟨p, 0, none⟩))).cell? ⟨w.heap.size, 0, none⟩ = some (.pointer (some ⟨p, 0, none⟩)) := by
      simp [World.setCell, World.cell?, Array.getElem?_modify, z1]
    have c2 : (w1.setCell ⟨w.heap.size, 0, none⟩ (.pointer (some ⟨p, 0, none⟩))).cell? ⟨p, 0, none⟩ = some (.int .i64 n) := by
      have hne : p ≠ w.heap.size := by have : p < w.heap.size := hlt; omega
      rw [← hx, ← hb2.cell (p := ⟨p, 0, none⟩) hlt]
      unfold World.cell?; rw [Below.heap_setCell _ _ _ _ hne]
    have hb3 := Lib.hid (hb2.setCell (p := ⟨w.heap.size, 0, none⟩) (Nat.le_refl _) (.pointer (some ⟨p, 0, none⟩)))
    clear he hb HAS HB z1 hb2 hx HW
    generalize w1.setCell _ _ = w2 at *
    go_wp2
    go_ret
    exact ⟨rfl, hb3.out⟩
end Go.Proofs.YtlbhbjmobcikfaaGreatDoor
/- What Read of bracket is to answer, as one word: as the reference reads; an error of its number at its place. -/
namespace Go.Proofs.YtlbhbjmobcikfaaGreatDoor
open Go.RowKit
/-- v is an error of number c at place p (-1: it tells none). -/
def ErrAt (A : Nat → Addr) (w : World) (v : Value) (c : Nat) (p : Int) : Prop :=
  ∃ k l, k < 21 ∧ c = k + 1 ∧ Wrapped w (.iface 184 (.pointer (some (A k)))) l v ∧ numOf (firstOf false l) = p
theorem ErrAt.later {A : Nat → Addr} {w w' : World} {v : Value} {c : Nat} {p : Int} (h : ErrAt A w v c p) (hb : Below w.heap.size w w') : ErrAt A w' v c p := by
  obtain ⟨k, l, hk, hc, hw, hp⟩ := h; exact ⟨k, l, hk, hc, hw.later hb, hp⟩
theorem ErrAt.iface {A : Nat → Addr} {w : World} {v : Value} {c : Nat} {p : Int} (h : ErrAt A w v c p) : ∃ t q, v = .iface t q := by
  obtain ⟨k, l, hk, hc, hw, hp⟩ := h; exact hw.iface
/-- What Read takes of variables: the sentinels, and a number in the library's MaxLen (the search in a text asks for it). -/
structure BrEnv (w : World) (A : Nat → Addr) : Prop where
  errs : Errs w A
  idx : ∃ m, w.cell? ⟨22, 0, none⟩ = some (.int .i64 m)
theorem BrEnv.below {A : Nat → Addr} {w w' : World} (h : BrEnv w A) (hb : Below w.heap.size w w') : BrEnv w' A := by
  refine ⟨h.errs.below hb, ?_⟩
  obtain ⟨m, hm⟩ := h.idx
  exact ⟨m, (hb.cell (p := ⟨22, 0, none⟩) (block_lt_of_cell hm)).trans hm⟩
theorem ErrAt.num {A : Nat → Addr} {w : World} {v : Value} {c : Nat} {p : Int} (h : ErrAt A w v c p) (hA : BrEnv w A) :
    Calls Tryz.prog 14 #[v] w fun e w' => e = .returned (.int .i64 c) ∧ Below w.heap.size w w' := by
  obtain ⟨k, l, hk, rfl, hw, hp⟩ := h
  exact (num_any A k l.length v w hA.errs hk hw.chain).mono fun _ _ h => ⟨by rw [h.1]; push_cast; rfl, h.2⟩
theorem ErrAt.place {A : Nat → Addr} {w : World} {v : Value} {c : Nat} {p : Int} (h : ErrAt A w v c p) (hT : ErrType w) :
    Calls Tryz.prog 16 #[v] w fun e w' => e = .returned (.int .i64 p) ∧ Below w.heap.size w w' := by
  obtain ⟨k, l, hk, rfl, hw, rfl⟩ := h
  exact numplace_any (A k) l v w hw hT
/-- Bits of the flags. -/
def icB (fl : Int) : Bool := (BitVec.ofInt 64 fl).getLsbD 1
def nlB (fl : Int) : Bool := (BitVec.ofInt 64 fl).getLsbD 2
/-- What Read ends with. -/
def ReadEnd (A : Nat → Addr) (R : Br.Ans) (w : World) (e : Ending) (w' : World) : Prop :=
  (match R with
  | .ok P j => e = .returned (.tuple #[(.agg #[.int .u64 (Oc.U (Oc.mk P 0)), .int .u64 (Oc.U (Oc.mk P 1)), .int .u64 (Oc.U (Oc.mk P 2)), .int .u64 (Oc.U (Oc.mk P 3))]), .int .i64 j, .nilIface])
  | .err c p => ∃ v, e = .returned (.tuple #[.agg #[.int .u64 0, .int .u64 0, .int .u64 0, .int .u64 0], .int .i64 0, v]) ∧ ErrAt A w' v c p) ∧ Below w.heap.size w w'
theorem ReadEnd.ok {A : Nat → Addr} {R : Br.Ans} {w : World} {e : Ending} {w' : World} (h : ReadEnd A R w e w') {P : Nat → Bool} {j : Nat} (hR : R = .ok P j) :
    e = .returned (.tuple #[(.agg #[.int .u64 (Oc.U (Oc.mk P 0)), .int .u64 (Oc.U (Oc.mk P 1)), .int .u64 (Oc.U (Oc.mk P 2)), .int .u64 (Oc.U (Oc.mk P 3))]), .int .i64 j, .nilIface]) ∧ Below w.heap.size w w' := by subst hR; exact h
theorem ReadEnd.err {A : Nat → Addr} {R : Br.Ans} {w : World} {e : Ending} {w' : World} (h : ReadEnd A R w e w') {c : Nat} {p : Int} (hR : R = .err c p) :
    ∃ v, e = .returned (.tuple #[.agg #[.int .u64 0, .int .u64 0, .int .u64 0, .int .u64 0], .int .i64 0, v]) ∧ ErrAt A w' v c p ∧ Below w.heap.size w w' := by
  subst hR; obtain ⟨⟨v, h1, h2⟩, h3⟩ := h; exact ⟨v, h1, h2, h3⟩
end Go.Proofs.YtlbhbjmobcikfaaGreatDoor
/- tree.Seq, Alt, Group, Rep, Bytes: nodes around trees. -/
namespace Go.Proofs.YtlbhbjmobcikfaaGreatDoor
open Go.RowKit
namespace Tr
/-- A node without anything but its kind. -/
def leaf (k : Int) : Tr := .node k 0#64 0#64 0#64 0#64 [] 0 0 0 false
/-- A KindBytes of the bytes for which P holds. -/
def bytes (P : Nat → Bool) : Tr := .node 2 (Oc.mk P 0) (Oc.mk P 1) (Oc.mk P 2) (Oc.mk P 3) [] 0 0 0 false
def many (k : Int) (l : List Tr) : Tr := .node k 0#64 0#64 0#64 0#64 l 0 0 0 false
def grp (n : Int) (t : Tr) : Tr := .node 7 0#64 0#64 0#64 0#64 [t] n 0 0 false
def rep (lo hi : Int) (t : Tr) : Tr := .node 8 0#64 0#64 0#64 0#64 [t] 0 lo hi false
/-- None, one, or a node of this kind. -/
def several (k : Int) : List Tr → Tr
  | [] => leaf 1
  | [t] => t
  | l => many k l
end Tr
theorem u0 : Oc.U 0#64 = 0 := by decide
/-- The cells of a node without anything. -/
abbrev noNode : Array Value := #[.int .i64 0, .int .u64 0, .int .u64 0, .int .u64 0, .int .u64 0, .slice none 0 0, .int .i64 0, .int .i64 0, .int .i64 0, .bool false]
set_option maxRecDepth 100000 in
set_option maxHeartbeats 4000000 in
theorem joined_many (k : Int) (ts : List Tr) (h2 : 2 ≤ ts.length) (x : Tr) (w : World) (B : Nat → Prop) (v : Value) (hs : TreesAt w B v ts) :
    Calls Tryz.prog 92 #[.int .i64 k, v, .agg (x.cells (.slice none 0 0))] w (OwnEnd (.many k ts) w) := by
  obtain ⟨p, cap, rfl, hlen⟩ := hs.slice
  have e0 : ((ts.length : Int) == 0) = false := by rw [beq_eq_false_iff_ne]; omega
  have e1 : ((ts.length : Int) == 1) = false := by rw [beq_eq_false_iff_ne]; omega
  have HC := Lib.hid (fun w9 (hb : Below w.heap.size w w9) => copies_any ts w9 B _ (hs.later hb))
  unfold Tr.cells
  clear hs
  go_enter Tryz.func92, Tryz.ntmps92
  go_wp2_with fail
  generalize hw1 : World.alloc (World.alloc w _) _ = w1
  have hb1 : Below w.heap.size w w1 := by rw [← hw1]; go_grown
  have hs1 : w1.heap.size = w.heap.size + 2 := by rw [← hw1]; simp
  have Z1 := Lib.hid (show w1.heap[w.heap.size + 1]? = some (.cells noNode 28) by rw [← hw1]; exact (two_new w _ _).2)
  have HB1 := Lib.hid hb1
  clear hw1 hb1
  refine (HC.out w1 HB1.out).mono ?_
  rintro e w2 ⟨s2, F, rfl, ho, hF, hb2⟩
  obtain ⟨p2, c2, rfl, hl2⟩ := ho.slice
  have HO := Lib.hid ho; have HF := Lib.hid hF
  have Y1 := Lib.hid (keep_blk hb2 Z1.out)
  have HB2 := Lib.hid (HB1.out.trans (hb2.mono HB1.out.size))
  clear ho hF hb2
  go_wp2_with (first
    | (refine wpList_store_row rfl 28 (.tmp 6) (.tmp 21) rfl (w.heap.size + 1) #[.int .i64 k, .int .u64 0, .int .u64 0, .int .u64 0, .int .u64 0, .slice p2 ts.length c2, .int .i64 0, .int .i64 0, .int .i64 0, .bool false] rfl rfl 28 _ Y1.out (by kernel_rfl) rfl (by simp [Value.oneCell']) ?_)
    | fail)
  refine bodyPost_ret (results_cell_row rfl _ _ (w.heap.size + 1) 28 #[.int .i64 k, .int .u64 0, .int .u64 0, .int .u64 0, .int .u64 0, .slice p2 ts.length c2, .int .i64 0, .int .i64 0, .int .i64 0, .bool false] (0, 0) _ rfl (heap_setRow Y1.out) Tryz.underlying28 rfl (by kernel_rfl)) rfl ⟨.slice p2 ts.length c2, F, rfl, ?_, ?_, ?_⟩
  · exact HO.out.keep fun b hb => by have := HF.out b hb; rw [heap_setRow_other _ _ _ (by omega)]
  · intro b hb; have := HF.out b hb; omega
  · exact below_setRow HB2.out (Nat.le_succ _) _
set_option maxRecDepth 100000 in
set_option maxHeartbeats 4000000 in
theorem joined_one (k : Int) (t x : Tr) (w : World) (B : Nat → Prop) (v : Value) (hs : TreesAt w B v [t]) :
    Calls Tryz.prog 92 #[.int .i64 k, v, .agg (x.cells (.slice none 0 0))] w (OwnEnd t w) := by
  obtain ⟨p, cap, rfl, hlen⟩ := hs.slice
  have hs : TreesAt w B (.slice p 1 cap) [t] := hs
  obtain ⟨b1, o1, s1, rfl, -, t1, sub1⟩ := hs.get (i := 0) (t := t) rfl
  have t1' : TenAt w b1 o1 t s1 := by simpa using t1
  have HC := Lib.hid (fun w9 (hb : Below w.heap.size w w9) => copy_any t w9 B _ ⟨s1, rfl, sub1.later hb⟩)
  have hb0 : Below w.heap.size w ((w.alloc (.cells (x.cells (.slice none 0 0)) 28)).alloc (.cells noNode 28)) := by go_grown
  have T1 := Lib.hid (t1'.keep (hb0.block _ t1'.lt))
  have hz1 := (two_new w (.cells (x.cells (.slice none 0 0)) 28) (.cells noNode 28)).2
  have Z1 := Lib.hid hz1; have HB1 := Lib.hid hb0
  have hs1 : ((w.alloc (.cells (x.cells (.slice none 0 0)) 28)).alloc (.cells noNode 28)).heap.size = w.heap.size + 2 := by simp
  unfold Tr.cells at *
  simp only [List.length_singleton]
  obtain ⟨d0, d1, d2, d3, d4, d5, d6, d7, d8, d9⟩ := T1.out
  clear hs t1 t1' sub1 hlen hb0 hz1 hs1
  go_enter Tryz.func92, Tryz.ntmps92
  go_wp2_with fail
  clear d0 d1 d2 d3 d4 d5 d6 d7 d8 d9
  refine (HC.out _ HB1.out).mono ?_
  rintro e w2 ⟨s2, F, rfl, ho, hF, hb2⟩
  obtain ⟨p2, c2, rfl, hl2⟩ := ho.slice
  have HO := Lib.hid ho; have HF := Lib.hid hF
  have Y1 := Lib.hid (keep_blk hb2 Z1.out)
  have HB2 := Lib.hid (HB1.out.trans (hb2.mono HB1.out.size))
  clear ho hF hb2 Z1 HB1
  go_wp2_with (first
    | (refine wpList_store_row rfl 28 (.tmp 6) (.tmp 17) rfl (w.heap.size + 1) #[.int .i64 t.kind, .int .u64 (Oc.U t.w0), .int .u64 (Oc.U t.w1), .int .u64 (Oc.U t.w2), .int .u64 (Oc.U t.w3), .slice p2 t.subs.length c2, .int .i64 t.num, .int .i64 t.least, .int .i64 t.most, .bool t.bare] rfl rfl 28 _ Y1.out (by kernel_rfl) rfl (by simp [Value.oneCell']) ?_)
    | fail)
  refine bodyPost_ret (results_cell_row rfl _ _ (w.heap.size + 1) 28 #[.int .i64 t.kind, .int .u64 (Oc.U t.w0), .int .u64 (Oc.U t.w1), .int .u64 (Oc.U t.w2), .int .u64 (Oc.U t.w3), .slice p2 t.subs.length c2, .int .i64 t.num, .int .i64 t.least, .int .i64 t.most, .bool t.bare] (0, 0) _ rfl (heap_setRow Y1.out) Tryz.underlying28 rfl (by kernel_rfl)) rfl ⟨.slice p2 t.subs.length c2, F, rfl, ?_, ?_, ?_⟩
  · exact HO.out.keep fun b hb => by have := HF.out b hb; rw [heap_setRow_other _ _ _ (by simp at this; omega)]
  · intro b hb; have := HF.out b hb; simp at this; omega
  · exact below_setRow HB2.out (Nat.le_succ _) _
set_option maxHeartbeats 1000000 in
theorem joined_nil (k : Int) (x : Tr) (w : World) (p : Option Addr) (cap : Nat) (hx : x.subs = []) :
    Calls Tryz.prog 92 #[.int .i64 k, .slice p 0 cap, .agg (x.cells (.slice none 0 0))] w (OwnEnd x w) := by
  have z0 := (two_new w (.cells (x.cells (.slice none 0 0)) 28) (.cells noNode 28)).1
  have z1 := (two_new w (.cells (x.cells (.slice none 0 0)) 28) (.cells noNode 28)).2
  have Z0 := Lib.hid z0; have Z1 := Lib.hid z1; have HX := Lib.hid hx
  clear z0 z1 hx
  unfold Tr.cells at *
  go_enter Tryz.func92, Tryz.ntmps92
  go_wp2_with (first
    | (refine wpList_load_row rfl 28 (.tmp 5) rfl w.heap.size rfl 28 _ (0, 0) _ Z0.out Tryz.underlying28 rfl (by kernel_rfl) ?_)
    | (refine wpList_store_row rfl 28 (.tmp 6) (.tmp 11) rfl (w.heap.size + 1) #[.int .i64 x.kind, .int .u64 (Oc.U x.w0), .int .u64 (Oc.U x.w1), .int .u64 (Oc.U x.w2), .int .u64 (Oc.U x.w3), .slice none 0 0, .int .i64 x.num, .int .i64 x.least, .int .i64 x.most, .bool x.bare] rfl rfl 28 _ Z1.out (by kernel_rfl) rfl (by simp [Value.oneCell']) ?_)
    | fail)
  refine bodyPost_ret (results_cell_row rfl _ _ (w.heap.size + 1) 28 #[.int .i64 x.kind, .int .u64 (Oc.U x.w0), .int .u64 (Oc.U x.w1), .int .u64 (Oc.U x.w2), .int .u64 (Oc.U x.w3), .slice none 0 0, .int .i64 x.num, .int .i64 x.least, .int .i64 x.most, .bool x.bare] (0, 0) _ rfl (heap_setRow Z1.out) Tryz.underlying28 rfl (by kernel_rfl)) rfl ⟨.slice none 0 0, [], rfl, ?_, ?_, ?_⟩
  · rw [HX.out]; exact .nil _ _
  · intro b hb; cases hb
  · exact below_setRow (by go_grown) (Nat.le_succ _) _
/-- What Seq and Alt hand on. -/
theorem joined_any (k : Int) (ts : List Tr) (x : Tr) (hx : x.subs = []) (w : World) (B : Nat → Prop) (v : Value) (hs : TreesAt w B v ts) (h0 : ts = [] → x = .leaf 1) :
    Calls Tryz.prog 92 #[.int .i64 k, v, .agg (x.cells (.slice none 0 0))] w (OwnEnd (.several k ts) w) := by
  match ts, hs, h0 with
  | [], hs, h0 =>
    obtain ⟨p, cap, rfl, -⟩ := hs.slice
    obtain rfl := h0 rfl
    exact joined_nil k _ w p cap rfl
  | [t], hs, _ => exact joined_one k t x w B v hs
  | a :: b :: r, hs, _ => exact joined_many k (a :: b :: r) (by simp) x w B v hs
set_option maxHeartbeats 1000000 in
theorem seq_any (ts : List Tr) (w : World) (B : Nat → Prop) (v : Value) (hs : TreesAt w B v ts) : Calls Tryz.prog 83 #[v] w (OwnEnd (.several 5 ts) w) := by
  have HC := Lib.hid (fun w9 (hb : Below w.heap.size w w9) => joined_any 5 ts (.leaf 1) rfl w9 B _ (hs.later hb) (fun _ => rfl))
  obtain ⟨p, cap, rfl, hlen⟩ := hs.slice
  simp only [Tr.leaf, Tr.cells, Tr.kind, Tr.w0, Tr.w1, Tr.w2, Tr.w3, Tr.num, Tr.least, Tr.most, Tr.bare, u0] at HC
  clear hs
  go_enter Tryz.func83, Tryz.ntmps83
  go_wp2_with fail
  have z0 := heap_alloc_new w (.cells noNode 28)
  have Z0 := Lib.hid z0
  clear z0
  refine (HC.out _ ((Below.refl _ _).alloc (Nat.le_refl _) _)).mono ?_
  rintro e w2 ⟨s2, F, rfl, ho, hF, hb2⟩
  obtain ⟨p2, c2, rfl, hl2⟩ := ho.slice
  have HO := Lib.hid ho; have HF := Lib.hid hF
  have Y0 := Lib.hid (keep_blk hb2 Z0.out)
  have HB2 := Lib.hid (((Below.refl w.heap.size w).alloc (Nat.le_refl _) (.cells noNode 28)).trans (hb2.mono (by simp)))
  generalize Tr.several 5 ts = t at *
  clear ho hF hb2
  unfold Tr.cells
  go_wp2_with (first
    | (refine wpList_store_row rfl 28 (.tmp 2) (.tmp 5) rfl w.heap.size #[.int .i64 t.kind, .int .u64 (Oc.U t.w0), .int .u64 (Oc.U t.w1), .int .u64 (Oc.U t.w2), .int .u64 (Oc.U t.w3), .slice p2 t.subs.length c2, .int .i64 t.num, .int .i64 t.least, .int .i64 t.most, .bool t.bare] rfl rfl 28 _ Y0.out (by kernel_rfl) rfl (by simp [Value.oneCell']) ?_)
    | fail)
  refine bodyPost_ret (results_cell_row rfl _ _ w.heap.size 28 #[.int .i64 t.kind, .int .u64 (Oc.U t.w0), .int .u64 (Oc.U t.w1), .int .u64 (Oc.U t.w2), .int .u64 (Oc.U t.w3), .slice p2 t.subs.length c2, .int .i64 t.num, .int .i64 t.least, .int .i64 t.most, .bool t.bare] (0, 0) _ rfl (heap_setRow Y0.out) Tryz.underlying28 rfl (by kernel_rfl)) rfl ⟨.slice p2 t.subs.length c2, F, rfl, ?_, ?_, ?_⟩
  · exact HO.out.keep fun b hb => by have := HF.out b hb; rw [heap_setRow_other _ _ _ (by simp at this; omega)]
  · intro b hb; have := HF.out b hb; simp at this; omega
  · exact below_setRow HB2.out (Nat.le_refl _) _
set_option maxHeartbeats 1000000 in
theorem bytes_is (a b c d : BitVec 64) (w : World) : Calls Tryz.prog 93 #[(.agg #[.int .u64 (Oc.U a), .int .u64 (Oc.U b), .int .u64 (Oc.U c), .int .u64 (Oc.U d)])] w fun e w' => e = .returned (.agg #[.int .i64 2, .int .u64 (Oc.U a), .int .u64 (Oc.U b), .int .u64 (Oc.U c), .int .u64 (Oc.U d), .slice none 0 0, .int .i64 0, .int .i64 0, .int .i64 0, .bool false]) ∧ Below w.heap.size w w' := by
  have z0 := (two_new w (.cells #[.int .u64 (Oc.U a), .int .u64 (Oc.U b), .int .u64 (Oc.U c), .int .u64 (Oc.U d)] 25) (.cells noNode 28)).1
  have z1 := (two_new w (.cells #[.int .u64 (Oc.U a), .int .u64 (Oc.U b), .int .u64 (Oc.U c), .int .u64 (Oc.U d)] 25) (.cells noNode 28)).2
  have Z0 := Lib.hid z0; have Z1 := Lib.hid z1
  clear z0 z1
  go_enter Tryz.func93, Tryz.ntmps93
  go_wp2_with (first
    | (refine wpList_load_row rfl 25 (.tmp 1) rfl w.heap.size rfl 25 _ (0, 0) _ Z0.out Tryz.underlying25 rfl (by kernel_rfl) ?_)
    | (refine wpList_store_row rfl 28 (.tmp 2) (.tmp 4) rfl (w.heap.size + 1) #[.int .i64 2, .int .u64 (Oc.U a), .int .u64 (Oc.U b), .int .u64 (Oc.U c), .int .u64 (Oc.U d), .slice none 0 0, .int .i64 0, .int .i64 0, .int .i64 0, .bool false] rfl rfl 28 _ Z1.out (by kernel_rfl) rfl (by simp [Value.oneCell']) ?_)
    | fail)
  exact bodyPost_ret (results_cell_row rfl _ _ (w.heap.size + 1) 28 #[.int .i64 2, .int .u64 (Oc.U a), .int .u64 (Oc.U b), .int .u64 (Oc.U c), .int .u64 (Oc.U d), .slice none 0 0, .int .i64 0, .int .i64 0, .int .i64 0, .bool false] (0, 0) _ rfl (heap_setRow Z1.out) Tryz.underlying28 rfl (by kernel_rfl)) rfl ⟨rfl, below_setRow (by go_grown) (Nat.le_succ _) _⟩
set_option maxHeartbeats 1000000 in
theorem alt_any (ts : List Tr) (hne : ts ≠ []) (w : World) (B : Nat → Prop) (v : Value) (hs : TreesAt w B v ts) : Calls Tryz.prog 70 #[v] w (OwnEnd (.several 6 ts) w) := by
  have HC := Lib.hid (fun w9 (hb : Below w.heap.size w w9) => joined_any 6 ts (.node 2 0#64 0#64 0#64 0#64 [] 0 0 0 false) rfl w9 B _ (hs.later hb) (fun h => absurd h hne))
  have HY := Lib.hid (fun w9 => bytes_is 0#64 0#64 0#64 0#64 w9)
  obtain ⟨p, cap, rfl, hlen⟩ := hs.slice
  simp only [Tr.cells, Tr.kind, Tr.w0, Tr.w1, Tr.w2, Tr.w3, Tr.num, Tr.least, Tr.most, Tr.bare, u0] at HC HY
  clear hs hne
  go_enter Tryz.func70, Tryz.ntmps70
  go_wp2_with fail
  have z0 := heap_alloc_new w (.cells noNode 28)
  refine (HY.out _).mono ?_
  rintro e w1 ⟨rfl, hb1⟩
  have Z0 := Lib.hid (keep_blk hb1 z0)
  have HB1 := Lib.hid (((Below.refl w.heap.size w).alloc (Nat.le_refl _) (.cells noNode 28)).trans (hb1.mono (by simp)))
  have hs1 : w.heap.size < w1.heap.size := by have := hb1.size; simp at this; omega
  clear z0 hb1
  go_wp2_with fail
  refine (HC.out _ HB1.out).mono ?_
  rintro e w2 ⟨s2, F, rfl, ho, hF, hb2⟩
  obtain ⟨p2, c2, rfl, hl2⟩ := ho.slice
  have HO := Lib.hid ho; have HF := Lib.hid hF
  have Y0 := Lib.hid (keep_blk hb2 Z0.out)
  have HB2 := Lib.hid (HB1.out.trans (hb2.mono HB1.out.size))
  generalize Tr.several 6 ts = t at *
  clear ho hF hb2
  unfold Tr.cells
  go_wp2_with (first
    | (refine wpList_store_row rfl 28 (.tmp 2) (.tmp 6) rfl w.heap.size #[.int .i64 t.kind, .int .u64 (Oc.U t.w0), .int .u64 (Oc.U t.w1), .int .u64 (Oc.U t.w2), .int .u64 (Oc.U t.w3), .slice p2 t.subs.length c2, .int .i64 t.num, .int .i64 t.least, .int .i64 t.most, .bool t.bare] rfl rfl 28 _ Y0.out (by kernel_rfl) rfl (by simp [Value.oneCell']) ?_)
    | fail)
  refine bodyPost_ret (results_cell_row rfl _ _ w.heap.size 28 #[.int .i64 t.kind, .int .u64 (Oc.U t.w0), .int .u64 (Oc.U t.w1), .int .u64 (Oc.U t.w2), .int .u64 (Oc.U t.w3), .slice p2 t.subs.length c2, .int .i64 t.num, .int .i64 t.least, .int .i64 t.most, .bool t.bare] (0, 0) _ rfl (heap_setRow Y0.out) Tryz.underlying28 rfl (by kernel_rfl)) rfl ⟨.slice p2 t.subs.length c2, F, rfl, ?_, ?_, ?_⟩
  · exact HO.out.keep fun b hb => by have := HF.out b hb; rw [heap_setRow_other _ _ _ (by omega)]
  · intro b hb; have := HF.out b hb; omega
  · exact below_setRow HB2.out (Nat.le_refl _) _
/-- One node as a list that was just made. -/
theorem one_list {w : World} {B : Nat → Prop} {t : Tr} {s : Value} (hs : TreesAt w B s t.subs) (ty : TypeId) (g : Nat) (hg : w.heap.size = g) : TreesAt (w.alloc (.cells (t.cells s) ty)) (fun b => B b ∨ b = w.heap.size) (.slice (some ⟨g, 0, none⟩) 1 1) [t] := by
  subst hg
  have hb : Below w.heap.size w (w.alloc (.cells (t.cells s) ty)) := (Below.refl _ _).alloc (Nat.le_refl _) _
  have hc : ∀ j, (w.alloc (.cells (t.cells s) ty)).cell? ⟨w.heap.size, j, none⟩ = (t.cells s)[j]? := cell_new w _ ty
  refine .mk (some ⟨w.heap.size, 0, none⟩) 1 [t] (fun _ => s) (by simp) (fun i u hi => ?_) (fun i u hi => ?_)
  · match i, hi with
    | 0, hi =>
      obtain rfl : t = u := Option.some.inj hi
      exact ⟨w.heap.size, 0, rfl, .inr rfl, ⟨hc 0, hc 1, hc 2, hc 3, hc 4, hc 5, hc 6, hc 7, hc 8, hc 9⟩⟩
  · match i, hi with
    | 0, hi =>
      obtain rfl : t = u := Option.some.inj hi
      exact (hs.later hb).mono fun b _ h => .inl h
set_option maxHeartbeats 1000000 in
theorem group_any (t : Tr) (n : Int) (w : World) (B : Nat → Prop) (v : Value) (hv : NodeV w B v t) : Calls Tryz.prog 147 #[.int .i64 n, v] w (OwnEnd (.grp n t) w) := by
  obtain ⟨s, rfl, hs⟩ := hv
  obtain ⟨p, cap, rfl, hlen⟩ := hs.slice
  have hb1 : Below w.heap.size w ((w.alloc (.cells (t.cells (.slice p t.subs.length cap)) 28)).alloc (.cells noNode 28)) := by go_grown
  have z0 := (two_new w (.cells (t.cells (.slice p t.subs.length cap)) 28) (.cells noNode 28)).1
  have z1 := (two_new w (.cells (t.cells (.slice p t.subs.length cap)) 28) (.cells noNode 28)).2
  have HC := Lib.hid (copies_any [t] _ _ _ (one_list (hs.later hb1) 28 (w.heap.size + 1 + 1) (by simp)))
  have HB1 := Lib.hid (hb1.alloc hb1.size (.cells (t.cells (.slice p t.subs.length cap)) 28))
  have Z0 := Lib.hid z0; have Z1 := Lib.hid (heap_alloc_lt (o := .cells (t.cells (.slice p t.subs.length cap)) 28) z1)
  clear hs hb1 z0 z1
  unfold Tr.cells at *
  go_enter Tryz.func147, Tryz.ntmps147
  go_wp2_with (first
    | (refine wpList_load_row rfl 28 (.tmp 3) rfl w.heap.size rfl 28 _ (0, 0) _ Z0.out Tryz.underlying28 rfl (by kernel_rfl) ?_)
    | (refine wpList_node1 rfl (.tmp 6) t p t.subs.length cap rfl rfl ?_)
    | fail)
  unfold Tr.cells
  refine HC.out.mono ?_
  rintro e w2 ⟨s2, F, rfl, ho, hF, hb2⟩
  obtain ⟨p2, c2, rfl, hl2⟩ := ho.slice
  have HO := Lib.hid ho; have HF := Lib.hid hF
  have Y1 := Lib.hid (keep_blk hb2 Z1.out)
  have HB2 := Lib.hid (HB1.out.trans (hb2.mono HB1.out.size))
  clear ho hF hb2 Z0 Z1 HB1
  simp only [List.length_singleton]
  go_wp2_with (first
    | (refine wpList_store_row rfl 28 (.tmp 4) (.tmp 9) rfl (w.heap.size + 1) #[.int .i64 7, .int .u64 0, .int .u64 0, .int .u64 0, .int .u64 0, .slice p2 1 c2, .int .i64 n, .int .i64 0, .int .i64 0, .bool false] rfl rfl 28 _ Y1.out (by kernel_rfl) rfl (by simp [Value.oneCell']) ?_)
    | fail)
  refine bodyPost_ret (results_cell_row rfl _ _ (w.heap.size + 1) 28 #[.int .i64 7, .int .u64 0, .int .u64 0, .int .u64 0, .int .u64 0, .slice p2 1 c2, .int .i64 n, .int .i64 0, .int .i64 0, .bool false] (0, 0) _ rfl (heap_setRow Y1.out) Tryz.underlying28 rfl (by kernel_rfl)) rfl ⟨.slice p2 1 c2, F, rfl, ?_, ?_, ?_⟩
  · exact HO.out.keep fun b hb => by have := HF.out b hb; rw [heap_setRow_other _ _ _ (by simp at this; omega)]
  · intro b hb; have := HF.out b hb; simp at this; omega
  · exact below_setRow HB2.out (Nat.le_succ _) _
set_option maxHeartbeats 1000000 in
theorem rep_any (t : Tr) (lo hi : Int) (w : World) (B : Nat → Prop) (v : Value) (hv : NodeV w B v t) : Calls Tryz.prog 99 #[v, .int .i64 lo, .int .i64 hi] w (OwnEnd (.rep lo hi t) w) := by
  obtain ⟨s, rfl, hs⟩ := hv
  obtain ⟨p, cap, rfl, hlen⟩ := hs.slice
  have hb1 : Below w.heap.size w ((w.alloc (.cells (t.cells (.slice p t.subs.length cap)) 28)).alloc (.cells noNode 28)) := by go_grown
  have z0 := (two_new w (.cells (t.cells (.slice p t.subs.length cap)) 28) (.cells noNode 28)).1
  have z1 := (two_new w (.cells (t.cells (.slice p t.subs.length cap)) 28) (.cells noNode 28)).2
  have HC := Lib.hid (copies_any [t] _ _ _ (one_list (hs.later hb1) 28 (w.heap.size + 1 + 1) (by simp)))
  have HB1 := Lib.hid (hb1.alloc hb1.size (.cells (t.cells (.slice p t.subs.length cap)) 28))
  have Z0 := Lib.hid z0; have Z1 := Lib.hid (heap_alloc_lt (o := .cells (t.cells (.slice p t.subs.length cap)) 28) z1)
  clear hs hb1 z0 z1
  unfold Tr.cells at *
  go_enter Tryz.func99, Tryz.ntmps99
  go_wp2_with (first
    | (refine wpList_load_row rfl 28 (.tmp 3) rfl w.heap.size rfl 28 _ (0, 0) _ Z0.out Tryz.underlying28 rfl (by kernel_rfl) ?_)
    | (refine wpList_node1 rfl (.tmp 9) t p t.subs.length cap rfl rfl ?_)
    | fail)
  unfold Tr.cells
  refine HC.out.mono ?_
  rintro e w2 ⟨s2, F, rfl, ho, hF, hb2⟩
  obtain ⟨p2, c2, rfl, hl2⟩ := ho.slice
  have HO := Lib.hid ho; have HF := Lib.hid hF
  have Y1 := Lib.hid (keep_blk hb2 Z1.out)
  have HB2 := Lib.hid (HB1.out.trans (hb2.mono HB1.out.size))
  clear ho hF hb2 Z0 Z1 HB1
  simp only [List.length_singleton]
  go_wp2_with (first
    | (refine wpList_store_row rfl 28 (.tmp 6) (.tmp 12) rfl (w.heap.size + 1) #[.int .i64 8, .int .u64 0, .int .u64 0, .int .u64 0, .int .u64 0, .slice p2 1 c2, .int .i64 0, .int .i64 lo, .int .i64 hi, .bool false] rfl rfl 28 _ Y1.out (by kernel_rfl) rfl (by simp [Value.oneCell']) ?_)
    | fail)
  refine bodyPost_ret (results_cell_row rfl _ _ (w.heap.size + 1) 28 #[.int .i64 8, .int .u64 0, .int .u64 0, .int .u64 0, .int .u64 0, .slice p2 1 c2, .int .i64 0, .int .i64 lo, .int .i64 hi, .bool false] (0, 0) _ rfl (heap_setRow Y1.out) Tryz.underlying28 rfl (by kernel_rfl)) rfl ⟨.slice p2 1 c2, F, rfl, ?_, ?_, ?_⟩
  · exact HO.out.keep fun b hb => by have := HF.out b hb; rw [heap_setRow_other _ _ _ (by simp at this; omega)]
  · intro b hb; have := HF.out b hb; simp at this; omega
  · exact below_setRow HB2.out (Nat.le_succ _) _
end Go.Proofs.YtlbhbjmobcikfaaGreatDoor
/- Extended patterns: what is read of a text from the left: a tree, the place behind it and the groups so far; or the first fault. Plain facts: nothing of the program. -/
namespace Go.Proofs.YtlbhbjmobcikfaaGreatDoor
namespace Ep
inductive Out
  | ok (t : Tr) (i g : Nat)
  | err (c : Nat) (p : Int)
/-- A byte as itself; a dot. -/
def one (ic : Bool) (b : Nat) : Tr := .bytes (if ic then Cl.fold (fun x => x == b) else fun x => x == b)
def dot (nl : Bool) : Tr := .bytes (if nl then fun x => !(x == 10) else fun _ => true)
/-- The next byte c among the k places from i on. -/
def find (f : Nat → Nat) (c : Nat) : Nat → Nat → Option Nat
  | 0, _ => none
  | k + 1, i => if f i = c then some i else find f c k (i + 1)
def digs (f : Nat → Nat) : Nat → Nat → Nat → Option Nat
  | 0, _, a => some a
  | k + 1, i, a => if 48 ≤ f i ∧ f i ≤ 57 then digs f k (i + 1) (10 * a + (f i - 48)) else none
/-- The count that stands from i to e. -/
def num (f : Nat → Nat) (i e : Nat) : Option Nat :=
  if e ≤ i ∨ i + 3 < e then none else match digs f (e - i) i 0 with
  | some n => if n ≤ 255 then some n else none
  | none => none
/-- The counts of a repeat that stand from i to e. -/
def counts (f : Nat → Nat) (i e : Nat) : Option (Int × Int) :=
  match find f 44 (e - i) i with
  | none => match num f i e with
    | some n => some (n, n)
    | none => none
  | some m => match num f i m with
    | none => none
    | some a => if m + 1 = e then some (a, -1) else match num f (m + 1) e with
      | none => none
      | some b => if a ≤ b then some (a, b) else none
def counted (t : Tr) (a b : Int) (at_ next g : Nat) : Out := if 2000 < (Tr.rep a b t).szT then .err 10 at_ else .ok (.rep a b t) next g
/-- The repeat behind an atom, if there is one. -/
def rep (f : Nat → Nat) (n : Nat) (t : Tr) (i g : Nat) : Out :=
  if f i = 42 then counted t 0 (-1) i (i + 1) g
  else if f i = 43 then counted t 1 (-1) i (i + 1) g
  else if f i = 63 then counted t 0 1 i (i + 1) g
  else if f i = 123 then match find f 125 (n - (i + 1)) (i + 1) with
    | none => .err 3 i
    | some e => match counts f (i + 1) e with
      | none => .err 4 i
      | some (a, b) => counted t a b i (e + 1) g
  else .ok t i g
/-- What a repeat may stand behind; H: what is read of a group. -/
def atom (f : Nat → Nat) (n : Nat) (ic nl : Bool) (H : Nat → Nat → Out) (i g : Nat) : Out :=
  if f i = 40 then H i g
  else if f i = 91 then match Br.whole f n i ic nl with
    | .ok P j => .ok (.bytes P) j g
    | .err c p => .err c p
  else if f i = 92 then (if Cl.cls 8 (f (i + 1)) then .ok (one ic (f (i + 1))) (i + 2) g else .err 8 i)
  else if f i = 46 then .ok (dot nl) (i + 1) g
  else .ok (one ic (f i)) (i + 1) g
def isRep (c : Nat) : Bool := c == 42 || c == 43 || c == 63 || c == 123
def piece (f : Nat → Nat) (n : Nat) (ic nl : Bool) (H : Nat → Nat → Out) (i g : Nat) : Out :=
  if f i = 94 then .ok (.leaf 3) (i + 1) g
  else if f i = 36 then .ok (.leaf 4) (i + 1) g
  else if isRep (f i) then .err 9 i
  else match atom f n ic nl H i g with
  | .err c p => .err c p
  | .ok t j g' => rep f n t j g'
def branch (f : Nat → Nat) (n : Nat) (ic nl : Bool) (H : Nat → Nat → Out) : Nat → List Tr → Nat → Nat → Out
  | 0, _, _, _ => .err 0 0
  | k + 1, l, i, g =>
    if n ≤ i ∨ f i = 124 ∨ f i = 41 then .ok (.several 5 l) i g
    else match piece f n ic nl H i g with
    | .err c p => .err c p
    | .ok t j g' => branch f n ic nl H k (l ++ [t]) j g'
def alts (f : Nat → Nat) (n : Nat) (ic nl : Bool) (H : Nat → Nat → Out) : Nat → List Tr → Nat → Nat → Out
  | 0, _, _, _ => .err 0 0
  | k + 1, l, i, g =>
    match branch f n ic nl H (n + 1) [] i g with
    | .err c p => .err c p
    | .ok t j g' => if f j = 124 then alts f n ic nl H k (l ++ [t]) (j + 1) g' else .ok (.several 6 (l ++ [t])) j g'
/-- A group, in which r more may stand in one another. -/
def group (f : Nat → Nat) (n : Nat) (ic nl : Bool) : Nat → Nat → Nat → Out
  | 0, i, _ => .err 11 i
  | r + 1, i, g => match alts f n ic nl (group f n ic nl r) (n + 1) [] (i + 1) (g + 1) with
    | .err c p => .err c p
    | .ok t j g' => if f j = 41 then .ok (.grp (g + 1 : Nat) t) (j + 1) g' else .err 2 i
def pat (f : Nat → Nat) (n : Nat) (ic nl : Bool) (r i g : Nat) : Out := alts f n ic nl (group f n ic nl r) (n + 1) [] i g
def whole (f : Nat → Nat) (n : Nat) (ic nl : Bool) : Out :=
  match pat f n ic nl 32 0 0 with
  | .err c p => .err c p
  | .ok t j g => if j < n then .err 2 j else if 2000 < t.szT then .err 10 n else .ok t j g
def parse (f : Nat → Nat) (n : Nat) (ic nl : Bool) : Out := if 1024 < n then .err 12 1024 else whole f n ic nl
theorem find_some {f : Nat → Nat} {c : Nat} : ∀ {k i e : Nat}, find f c k i = some e → i ≤ e ∧ e < i + k ∧ f e = c ∧ ∀ j, i ≤ j → j < e → f j ≠ c
  | 0, _, _, h => by simp [find] at h
  | k + 1, i, e, h => by
    unfold find at h
    split at h
    · rename_i hc
      obtain rfl := Option.some.inj h
      exact ⟨Nat.le_refl _, by omega, hc, fun j h1 h2 => by omega⟩
    · rename_i hc
      obtain ⟨h1, h2, h3, h4⟩ := find_some h
      refine ⟨by omega, by omega, h3, fun j h5 h6 => ?_⟩
      by_cases e : j = i
      · subst e; exact hc
      · exact h4 j (by omega) h6
theorem find_none {f : Nat → Nat} {c : Nat} : ∀ {k i : Nat}, find f c k i = none → ∀ j, i ≤ j → j < i + k → f j ≠ c
  | 0, _, _, j, h1, h2 => by omega
  | k + 1, i, h, j, h1, h2 => by
    unfold find at h
    split at h
    · cases h
    · rename_i hc
      by_cases e : j = i
      · subst e; exact hc
      · exact find_none h j (by omega) (by omega)
theorem num_le {f : Nat → Nat} {i e m : Nat} (h : num f i e = some m) : m ≤ 255 := by
  unfold num at h
  split at h
  · cases h
  · split at h
    · split at h
      · rename_i h1; obtain rfl := Option.some.inj h; exact h1
      · cases h
    · cases h
/-- Counts are those of a repeat. -/
theorem counts_ok {f : Nat → Nat} {i e : Nat} {a b : Int} (h : counts f i e = some (a, b)) : 0 ≤ a ∧ a ≤ 255 ∧ (b = -1 ∨ (a ≤ b ∧ b ≤ 255)) := by
  unfold counts at h
  split at h
  · split at h
    · rename_i m hm
      have := num_le hm
      simp only [Option.some.injEq, Prod.mk.injEq] at h
      obtain ⟨rfl, rfl⟩ := h
      omega
    · cases h
  · split at h
    · cases h
    · rename_i a' ha
      have := num_le ha
      split at h
      · simp only [Option.some.injEq, Prod.mk.injEq] at h
        obtain ⟨rfl, rfl⟩ := h
        omega
      · split at h
        · cases h
        · rename_i b' hb
          have := num_le hb
          split at h
          · simp only [Option.some.injEq, Prod.mk.injEq] at h
            obtain ⟨rfl, rfl⟩ := h
            omega
          · cases h
theorem counted_ok {t u : Tr} {a b : Int} {p q g j g' : Nat} (h : counted t a b p q g = .ok u j g') : u = .rep a b t ∧ j = q ∧ g' = g := by
  unfold counted at h
  split at h
  · cases h
  · injection h with h1 h2 h3; exact ⟨h1.symm, h2.symm, h3.symm⟩
theorem rep_ok {f : Nat → Nat} {n i g j g' : Nat} {t u : Tr} (h : rep f n t i g = .ok u j g') (hf : Br.Txt f n) (hi : i ≤ n) :
    i ≤ j ∧ j ≤ n ∧ g' = g ∧ (u = t ∨ ∃ a b, u = .rep a b t ∧ 0 ≤ a ∧ a ≤ 255 ∧ (b = -1 ∨ (a ≤ b ∧ b ≤ 255))) := by
  unfold rep at h
  split at h
  · rename_i hc
    have := hf.lt hc (by omega)
    obtain ⟨rfl, rfl, rfl⟩ := counted_ok h
    exact ⟨by omega, by omega, rfl, .inr ⟨_, _, rfl, by omega⟩⟩
  split at h
  · rename_i hc
    have := hf.lt hc (by omega)
    obtain ⟨rfl, rfl, rfl⟩ := counted_ok h
    exact ⟨by omega, by omega, rfl, .inr ⟨_, _, rfl, by omega⟩⟩
  split at h
  · rename_i hc
    have := hf.lt hc (by omega)
    obtain ⟨rfl, rfl, rfl⟩ := counted_ok h
    exact ⟨by omega, by omega, rfl, .inr ⟨_, _, rfl, by omega⟩⟩
  split at h
  · split at h
    · cases h
    · rename_i e he
      obtain ⟨h1, h2, h3, -⟩ := find_some he
      split at h
      · cases h
      · rename_i a b hab
        obtain ⟨rfl, rfl, rfl⟩ := counted_ok h
        exact ⟨by omega, by omega, rfl, .inr ⟨_, _, rfl, counts_ok hab⟩⟩
  · injection h with h1 h2 h3
    subst h1 h2 h3
    exact ⟨Nat.le_refl _, hi, rfl, .inl rfl⟩
theorem whole_next {f : Nat → Nat} {n a j : Nat} {ic nl : Bool} {P : Nat → Bool} (hf : Br.Txt f n) (ha : a < n) (h : Br.whole f n a ic nl = .ok P j) : a < j ∧ j ≤ n := by
  unfold Br.whole at h
  simp only at h
  generalize hi : (if f (a + 1) == 94 then a + 2 else a + 1) = i at h
  have hi1 : a + 1 ≤ i := by rw [← hi]; split <;> omega
  have hi2 : i ≤ n := by
    rw [← hi]; split
    · rename_i hc; have := hf.lt (beq_iff_eq.1 hc) (by omega); omega
    · omega
  cases hr : Br.items f n a (n + 1) i (fun _ => false) false with
  | err c p => rw [hr] at h; cases h
  | ok Q j' =>
    rw [hr] at h
    unfold Br.ends at h
    injection h with h1 h2
    obtain ⟨-, h3, h4, -⟩ := Br.items_ok hf hi2 hr
    simp only [Bool.false_eq_true, if_false] at h4
    omega
/-- What H reads lies behind the place, and within. -/
def Ahead (n : Nat) (H : Nat → Nat → Out) : Prop := ∀ i g t j g', i < n → H i g = .ok t j g' → i < j ∧ j ≤ n
theorem atom_next {f : Nat → Nat} {n i g j g' : Nat} {ic nl : Bool} {H : Nat → Nat → Out} {t : Tr} (hf : Br.Txt f n) (hH : Ahead n H) (hi : i < n) (h : atom f n ic nl H i g = .ok t j g') : i < j ∧ j ≤ n := by
  unfold atom at h
  split at h
  · exact hH i g t j g' hi h
  split at h
  · cases hw : Br.whole f n i ic nl with
    | err c p => rw [hw] at h; cases h
    | ok P k =>
      rw [hw] at h
      injection h with h1 h2 h3
      subst h2
      exact whole_next hf hi hw
  split at h
  · split at h
    · rename_i hc
      injection h with h1 h2 h3
      have : i + 1 < n := by
        by_cases hl : i + 1 < n
        · exact hl
        · rw [hf.2 (i + 1) (by omega)] at hc; exact absurd hc (by decide)
      omega
    · cases h
  split at h
  · injection h with h1 h2 h3; omega
  · injection h with h1 h2 h3; omega
theorem piece_next {f : Nat → Nat} {n i g j g' : Nat} {ic nl : Bool} {H : Nat → Nat → Out} {t : Tr} (hf : Br.Txt f n) (hH : Ahead n H) (hi : i < n) (h : piece f n ic nl H i g = .ok t j g') : i < j ∧ j ≤ n := by
  unfold piece at h
  split at h
  · injection h with h1 h2 h3; omega
  split at h
  · injection h with h1 h2 h3; omega
  split at h
  · cases h
  cases ha : atom f n ic nl H i g with
  | err c p => rw [ha] at h; cases h
  | ok u k g2 =>
    rw [ha] at h
    have h1 := atom_next hf hH hi ha
    have h2 := rep_ok h hf h1.2
    omega
theorem branch_next {f : Nat → Nat} {n : Nat} {ic nl : Bool} {H : Nat → Nat → Out} (hf : Br.Txt f n) (hH : Ahead n H) : ∀ {k : Nat} {l : List Tr} {i g j g' : Nat} {t : Tr}, i ≤ n → branch f n ic nl H k l i g = .ok t j g' → i ≤ j ∧ j ≤ n
  | 0, _, _, _, _, _, _, _, h => by cases h
  | k + 1, l, i, g, j, g', t, hi, h => by
    unfold branch at h
    split at h
    · injection h with h1 h2 h3; omega
    · rename_i hc
      cases hp : piece f n ic nl H i g with
      | err c p => rw [hp] at h; cases h
      | ok u m g2 =>
        rw [hp] at h
        have h1 := piece_next hf hH (by omega) hp
        have h2 := branch_next hf hH h1.2 h
        omega
theorem alts_next {f : Nat → Nat} {n : Nat} {ic nl : Bool} {H : Nat → Nat → Out} (hf : Br.Txt f n) (hH : Ahead n H) : ∀ {k : Nat} {l : List Tr} {i g j g' : Nat} {t : Tr}, i ≤ n → alts f n ic nl H k l i g = .ok t j g' → i ≤ j ∧ j ≤ n
  | 0, _, _, _, _, _, _, _, h => by cases h
  | k + 1, l, i, g, j, g', t, hi, h => by
    unfold alts at h
    cases hp : branch f n ic nl H (n + 1) [] i g with
    | err c p => rw [hp] at h; cases h
    | ok u m g2 =>
      rw [hp] at h
      have h1 := branch_next hf hH hi hp
      simp only at h
      split at h
      · rename_i hc
        have := hf.lt hc (by omega)
        have h2 := alts_next hf hH (by omega) h
        omega
      · injection h with h3 h4 h5; omega
theorem group_next {f : Nat → Nat} {n : Nat} {ic nl : Bool} (hf : Br.Txt f n) : ∀ r, Ahead n (group f n ic nl r)
  | 0 => fun i g t j g' _ h => by cases h
  | r + 1 => fun i g t j g' hi h => by
    unfold group at h
    cases hp : alts f n ic nl (group f n ic nl r) (n + 1) [] (i + 1) (g + 1) with
    | err c p => rw [hp] at h; cases h
    | ok u m g2 =>
      rw [hp] at h
      have h1 := alts_next hf (group_next hf r) (by omega) hp
      simp only at h
      split at h
      · rename_i hc
        have := hf.lt hc (by omega)
        injection h with h3 h4 h5
        omega
      · cases h
theorem form_leaf (k : Int) (h : k = 1 ∨ k = 3 ∨ k = 4) : (Tr.leaf k).InForm := .mk _ (.inl ⟨h, rfl, rfl, rfl, rfl, rfl, rfl, rfl, rfl, rfl⟩) (fun u hu => by cases hu)
theorem form_bytes (P : Nat → Bool) : (Tr.bytes P).InForm := .mk _ (.inr (.inl ⟨rfl, rfl, rfl, rfl, rfl, rfl⟩)) (fun u hu => by cases hu)
theorem form_many (k : Int) (h : k = 5 ∨ k = 6) (l : List Tr) (h2 : 2 ≤ l.length) (hl : ∀ u, u ∈ l → u.InForm) : (Tr.many k l).InForm :=
  .mk _ (.inr (.inr (.inl ⟨h, rfl, rfl, rfl, rfl, h2, rfl, rfl, rfl, rfl⟩))) hl
theorem form_grp (m : Int) (t : Tr) (h1 : 1 ≤ m) (h2 : m ≤ 999) (h : t.InForm) : (Tr.grp m t).InForm :=
  .mk _ (.inr (.inr (.inr (.inl ⟨rfl, rfl, rfl, rfl, rfl, rfl, h1, h2, rfl, rfl, rfl⟩)))) (fun u hu => by
    rcases List.mem_cons.1 hu with rfl | hu
    · exact h
    · cases hu)
theorem form_rep (a b : Int) (t : Tr) (h1 : 0 ≤ a) (h2 : a ≤ 255) (h3 : b = -1 ∨ (a ≤ b ∧ b ≤ 255)) (h : t.InForm) : (Tr.rep a b t).InForm :=
  .mk _ (.inr (.inr (.inr (.inr ⟨rfl, rfl, rfl, rfl, rfl, rfl, rfl, h1, h2, h3, fun hb => by cases hb⟩)))) (fun u hu => by
    rcases List.mem_cons.1 hu with rfl | hu
    · exact h
    · cases hu)
theorem form_several (k : Int) (h : k = 5 ∨ k = 6) (l : List Tr) (hl : ∀ u, u ∈ l → u.InForm) : (Tr.several k l).InForm := by
  match l, hl with
  | [], _ => exact form_leaf 1 (.inl rfl)
  | [t], hl => exact hl t (by simp)
  | a :: b :: r, hl => exact form_many k h (a :: b :: r) (by simp) hl
/-- What H reads is in form; groups are few: d of them are open. -/
def Right (n d : Nat) (H : Nat → Nat → Out) : Prop := ∀ i g t j g', i < n → 2 * g ≤ i + d → H i g = .ok t j g' → t.InForm ∧ 2 * g' ≤ j + d
theorem atom_form {f : Nat → Nat} {n d i g j g' : Nat} {ic nl : Bool} {H : Nat → Nat → Out} {t : Tr} (hf : Br.Txt f n) (hA : Ahead n H) (hH : Right n d H) (hi : i < n) (hg : 2 * g ≤ i + d) (h : atom f n ic nl H i g = .ok t j g') : t.InForm ∧ 2 * g' ≤ j + d := by
  have hn := atom_next hf hA hi h
  unfold atom at h
  split at h
  · exact hH i g t j g' hi hg h
  split at h
  · cases hw : Br.whole f n i ic nl with
    | err c p => rw [hw] at h; cases h
    | ok P k =>
      rw [hw] at h
      injection h with h1 h2 h3
      subst h1 h2 h3
      exact ⟨form_bytes _, by omega⟩
  split at h
  · split at h
    · injection h with h1 h2 h3
      subst h1 h2 h3
      exact ⟨form_bytes _, by omega⟩
    · cases h
  split at h
  · injection h with h1 h2 h3
    subst h1 h2 h3
    exact ⟨form_bytes _, by omega⟩
  · injection h with h1 h2 h3
    subst h1 h2 h3
    exact ⟨form_bytes _, by omega⟩
theorem rep_form {f : Nat → Nat} {n i g j g' : Nat} {t u : Tr} (h : rep f n t i g = .ok u j g') (hf : Br.Txt f n) (hi : i ≤ n) (ht : t.InForm) : u.InForm := by
  obtain ⟨-, -, -, rfl | ⟨a, b, rfl, h1, h2, h3⟩⟩ := rep_ok h hf hi
  · exact ht
  · exact form_rep a b t h1 h2 h3 ht
theorem piece_form {f : Nat → Nat} {n d i g j g' : Nat} {ic nl : Bool} {H : Nat → Nat → Out} {t : Tr} (hf : Br.Txt f n) (hA : Ahead n H) (hH : Right n d H) (hi : i < n) (hg : 2 * g ≤ i + d) (h : piece f n ic nl H i g = .ok t j g') : t.InForm ∧ 2 * g' ≤ j + d := by
  unfold piece at h
  split at h
  · injection h with h1 h2 h3; subst h1 h2 h3; exact ⟨form_leaf 3 (by omega), by omega⟩
  split at h
  · injection h with h1 h2 h3; subst h1 h2 h3; exact ⟨form_leaf 4 (by omega), by omega⟩
  split at h
  · cases h
  cases ha : atom f n ic nl H i g with
  | err c p => rw [ha] at h; cases h
  | ok u k g2 =>
    rw [ha] at h
    have h1 := atom_next hf hA hi ha
    have h2 := rep_ok h hf h1.2
    have h3 := atom_form hf hA hH hi hg ha
    exact ⟨rep_form h hf h1.2 h3.1, by omega⟩
theorem branch_form {f : Nat → Nat} {n d : Nat} {ic nl : Bool} {H : Nat → Nat → Out} (hf : Br.Txt f n) (hA : Ahead n H) (hH : Right n d H) : ∀ {k : Nat} {l : List Tr} {i g j g' : Nat} {t : Tr}, i ≤ n → (∀ u, u ∈ l → u.InForm) → 2 * g ≤ i + d → branch f n ic nl H k l i g = .ok t j g' → t.InForm ∧ 2 * g' ≤ j + d
  | 0, _, _, _, _, _, _, _, _, _, h => by cases h
  | k + 1, l, i, g, j, g', t, hi, hl, hg, h => by
    unfold branch at h
    split at h
    · injection h with h1 h2 h3; subst h1 h2 h3; exact ⟨form_several 5 (.inl rfl) l hl, hg⟩
    · rename_i hc
      cases hp : piece f n ic nl H i g with
      | err c p => rw [hp] at h; cases h
      | ok u m g2 =>
        rw [hp] at h
        have h1 := piece_next hf hA (by omega) hp
        have h2 := piece_form hf hA hH (by omega) hg hp
        refine branch_form hf hA hH h1.2 (fun x hx => ?_) h2.2 h
        rcases List.mem_append.1 hx with hx | hx
        · exact hl x hx
        · rw [List.mem_singleton.1 hx]; exact h2.1
theorem alts_form {f : Nat → Nat} {n d : Nat} {ic nl : Bool} {H : Nat → Nat → Out} (hf : Br.Txt f n) (hA : Ahead n H) (hH : Right n d H) : ∀ {k : Nat} {l : List Tr} {i g j g' : Nat} {t : Tr}, i ≤ n → (∀ u, u ∈ l → u.InForm) → 2 * g ≤ i + d → alts f n ic nl H k l i g = .ok t j g' → t.InForm ∧ 2 * g' ≤ j + d
  | 0, _, _, _, _, _, _, _, _, _, h => by cases h
  | k + 1, l, i, g, j, g', t, hi, hl, hg, h => by
    unfold alts at h
    cases hp : branch f n ic nl H (n + 1) [] i g with
    | err c p => rw [hp] at h; cases h
    | ok u m g2 =>
      rw [hp] at h
      have h1 := branch_next hf hA hi hp
      have h2 := branch_form hf hA hH hi (fun x hx => by cases hx) hg hp
      have hl2 : ∀ x, x ∈ l ++ [u] → x.InForm := fun x hx => by
        rcases List.mem_append.1 hx with hx | hx
        · exact hl x hx
        · rw [List.mem_singleton.1 hx]; exact h2.1
      simp only at h
      split at h
      · rename_i hc
        have := hf.lt hc (by omega)
        exact alts_form hf hA hH (by omega) hl2 (by omega) h
      · injection h with h3 h4 h5; subst h3 h4 h5; exact ⟨form_several 6 (.inr rfl) _ hl2, h2.2⟩
theorem group_right {f : Nat → Nat} {n : Nat} {ic nl : Bool} (hf : Br.Txt f n) (hn : n ≤ 1024) : ∀ r d, r + d ≤ 32 → Right n d (group f n ic nl r)
  | 0, d, _ => fun i g t j g' _ _ h => by cases h
  | r + 1, d, hd => fun i g t j g' hi hg h => by
    unfold group at h
    cases hp : alts f n ic nl (group f n ic nl r) (n + 1) [] (i + 1) (g + 1) with
    | err c p => rw [hp] at h; cases h
    | ok u m g2 =>
      rw [hp] at h
      have h1 := alts_next hf (group_next hf r) (by omega) hp
      have h2 := alts_form hf (group_next hf r) (group_right hf hn r (d + 1) (by omega)) (by omega) (fun x hx => by cases hx) (by omega) hp
      simp only at h
      split at h
      · rename_i hc
        injection h with h3 h4 h5
        subst h3 h4 h5
        exact ⟨form_grp _ _ (by omega) (by omega) h2.1, by omega⟩
      · cases h
end Ep
end Go.Proofs.YtlbhbjmobcikfaaGreatDoor
/- What a read pattern is: its faults lie in the text, its tree isn't deep, has no repeats in repeats, and its groups are numbered from the left. Plain facts: nothing of the program. -/
namespace Go.Proofs.YtlbhbjmobcikfaaGreatDoor
namespace Tr
mutual
/-- How deep a tree is. -/
def dpT : Tr → Nat
  | .node k _ _ _ _ s _ lo hi _ => if s.length = 0 then 1 else dpS s + (if k = 8 ∧ ¬ (lo = 0 ∧ (hi = 1 ∨ hi = -1)) then 2 else 1)
def dpS : List Tr → Nat
  | [] => 0
  | t :: l => max (dpT t) (dpS l)
end
mutual
/-- The groups that are met behind g of them; none: a bare repeat, a repeat in a repeat (r) or a group out of its turn. -/
def tdT : Tr → Nat → Bool → Option Nat
  | .node k _ _ _ _ s m _ _ br, g, r => if br = true ∨ (r = true ∧ k = 8) then none else if k = 7 then (if m = (g + 1 : Nat) then tdS s (g + 1) (decide (k = 8)) else none) else tdS s g (decide (k = 8))
def tdS : List Tr → Nat → Bool → Option Nat
  | [], g, _ => some g
  | t :: l, g, r => match tdT t g r with
    | some g' => tdS l g' r
    | none => none
end
theorem dpS_append : ∀ (l m : List Tr), dpS (l ++ m) = max (dpS l) (dpS m)
  | [], m => by simp [dpS]
  | t :: l, m => by rw [List.cons_append, dpS, dpS, dpS_append l m]; omega
theorem tdS_append : ∀ (l m : List Tr) (g : Nat) (r : Bool), tdS (l ++ m) g r = match tdS l g r with
    | some g' => tdS m g' r
    | none => none
  | [], m, g, r => by simp [tdS]
  | t :: l, m, g, r => by
    rw [List.cons_append, tdS, tdS]
    cases tdT t g r with
    | none => rfl
    | some g' => exact tdS_append l m g' r
theorem dpS_take (l : List Tr) (m : Nat) (x : Tr) (h : l[m]? = some x) : dpS (l.take (m + 1)) = max (dpS (l.take m)) (dpT x) := by
  rw [List.take_add_one, h, Option.toList_some, dpS_append, dpS, dpS]; omega
theorem dpT_le_dpS {l : List Tr} {x : Tr} (h : x ∈ l) : dpT x ≤ dpS l := by
  induction l with
  | nil => cases h
  | cons a l ih =>
    rw [dpS]
    rcases List.mem_cons.1 h with rfl | h
    · omega
    · have := ih h; omega
theorem tdT_weak {t : Tr} {g g' : Nat} (h : tdT t g true = some g') : tdT t g false = some g' := by
  cases t with
  | node k a b c d s m lo hi br =>
    rw [tdT] at h ⊢
    split at h
    · cases h
    · rename_i hc
      rw [if_neg (by
        rintro (h1 | ⟨h1, -⟩)
        · exact hc (.inl h1)
        · cases h1)]
      exact h
end Tr
namespace Br
theorem whole_at {f : Nat → Nat} {n a c : Nat} {ic nl : Bool} {p : Int} (hf : Txt f n) (ha : a < n) (h : whole f n a ic nl = .err c p) : 0 ≤ p ∧ p ≤ n := by
  have hit : ∀ {i c : Nat} {p : Int}, i < n → item f n i a = .err c p → 0 ≤ p ∧ p ≤ n := by
    intro i c p hi h
    unfold item at h
    split at h
    · injection h with h1 h2; omega
    split at h
    · unfold classed at h
      split at h
      · injection h with h1 h2; omega
      · unfold named at h
        split at h
        · injection h with h1 h2; omega
        · cases h
    split at h
    · unfold ranged at h
      split at h
      · rename_i hd
        have : f (i + 2) = 91 := by
          unfold dotted at hd
          simp only [Bool.and_eq_true, beq_iff_eq] at hd
          exact hd.1
        have := hf.lt this (by omega)
        injection h with h1 h2; omega
      split at h
      · injection h with h1 h2; omega
      · cases h
    · cases h
  have hits : ∀ (k : Nat) {i c : Nat} {p : Int} {P : Nat → Bool} {b : Bool}, i ≤ n → items f n a k i P b = .err c p → 0 ≤ p ∧ p ≤ n := by
    intro k
    induction k with
    | zero => intro i c p P b hi h; unfold items at h; injection h with h1 h2; omega
    | succ k ih =>
      intro i c p P b hi h
      unfold items at h
      split at h
      · cases h
      split at h
      · injection h with h1 h2; omega
      · rename_i hn
        cases hm : item f n i a with
        | err c' p' =>
          rw [hm] at h
          injection h with h1 h2
          subst h1 h2
          exact hit (by omega) hm
        | ok Q j =>
          rw [hm] at h
          exact ih (item_next (by omega) hm).2 h
  unfold whole at h
  simp only at h
  generalize hi : (if f (a + 1) == 94 then a + 2 else a + 1) = i at h
  have hi2 : i ≤ n := by
    rw [← hi]; split
    · rename_i hc; have := hf.lt (beq_iff_eq.1 hc) (by omega); omega
    · omega
  cases hr : items f n a (n + 1) i (fun _ => false) false with
  | ok Q j => rw [hr] at h; cases h
  | err c' p' =>
    rw [hr] at h
    unfold ends at h
    injection h with h1 h2
    subst h1 h2
    exact hits _ hi2 hr
end Br
namespace Ep
/-- A fault lies in a text of n bytes, or at its end. -/
def Plc (n : Nat) (O : Out) : Prop := ∀ c p, O = .err c p → 0 ≤ p ∧ p ≤ n
theorem plc_err {n c : Nat} {p : Int} (h0 : 0 ≤ p) (h1 : p ≤ n) : Plc n (.err c p) := fun c' p' h => by
  injection h with h2 h3; omega
theorem plc_ok {n i g : Nat} {t : Tr} : Plc n (.ok t i g) := fun c' p' h => by cases h
theorem counted_plc {n p q g : Nat} {t : Tr} {a b : Int} (h : p ≤ n) : Plc n (counted t a b p q g) := by
  unfold counted
  split
  · exact plc_err (by omega) (by omega)
  · exact plc_ok
theorem rep_plc {f : Nat → Nat} {n i g : Nat} {t : Tr} (h : i ≤ n) : Plc n (rep f n t i g) := by
  unfold rep
  split
  · exact counted_plc h
  split
  · exact counted_plc h
  split
  · exact counted_plc h
  split
  · split
    · exact plc_err (by omega) (by omega)
    · split
      · exact plc_err (by omega) (by omega)
      · exact counted_plc h
  · exact plc_ok
def Plcs (n : Nat) (H : Nat → Nat → Out) : Prop := ∀ i g, i < n → Plc n (H i g)
theorem atom_plc {f : Nat → Nat} {n i g : Nat} {ic nl : Bool} {H : Nat → Nat → Out} (hf : Br.Txt f n) (hH : Plcs n H) (hi : i < n) : Plc n (atom f n ic nl H i g) := by
  unfold atom
  split
  · exact hH i g hi
  split
  · cases hw : Br.whole f n i ic nl with
    | ok P j => exact plc_ok
    | err c p => exact plc_err (Br.whole_at hf hi hw).1 (Br.whole_at hf hi hw).2
  split
  · split
    · exact plc_ok
    · exact plc_err (by omega) (by omega)
  split
  · exact plc_ok
  · exact plc_ok
theorem piece_plc {f : Nat → Nat} {n i g : Nat} {ic nl : Bool} {H : Nat → Nat → Out} (hf : Br.Txt f n) (hA : Ahead n H) (hH : Plcs n H) (hi : i < n) : Plc n (piece f n ic nl H i g) := by
  unfold piece
  split
  · exact plc_ok
  split
  · exact plc_ok
  split
  · exact plc_err (by omega) (by omega)
  have h1 := atom_plc (ic := ic) (nl := nl) (g := g) hf hH hi
  cases ha : atom f n ic nl H i g with
  | err c p => rw [ha] at h1; exact h1
  | ok u k g2 => exact rep_plc (atom_next hf hA hi ha).2
theorem branch_plc {f : Nat → Nat} {n : Nat} {ic nl : Bool} {H : Nat → Nat → Out} (hf : Br.Txt f n) (hA : Ahead n H) (hH : Plcs n H) : ∀ (k : Nat) (l : List Tr) (i g : Nat), i ≤ n → Plc n (branch f n ic nl H k l i g)
  | 0, _, _, _, _ => plc_err (by omega) (by omega)
  | k + 1, l, i, g, hi => by
    unfold branch
    split
    · exact plc_ok
    · rename_i hc
      have h1 := piece_plc (ic := ic) (nl := nl) (g := g) hf hA hH (i := i) (by omega)
      cases hp : piece f n ic nl H i g with
      | err c p => rw [hp] at h1; exact h1
      | ok u m g2 => exact branch_plc hf hA hH k _ m g2 (piece_next hf hA (by omega) hp).2
theorem alts_plc {f : Nat → Nat} {n : Nat} {ic nl : Bool} {H : Nat → Nat → Out} (hf : Br.Txt f n) (hA : Ahead n H) (hH : Plcs n H) : ∀ (k : Nat) (l : List Tr) (i g : Nat), i ≤ n → Plc n (alts f n ic nl H k l i g)
  | 0, _, _, _, _ => plc_err (by omega) (by omega)
  | k + 1, l, i, g, hi => by
    unfold alts
    have h1 := branch_plc (ic := ic) (nl := nl) hf hA hH (n + 1) [] i g hi
    cases hp : branch f n ic nl H (n + 1) [] i g with
    | err c p => rw [hp] at h1; exact h1
    | ok u m g2 =>
      have h2 := branch_next hf hA hi hp
      simp only
      split
      · rename_i hc
        have := hf.lt hc (by omega)
        exact alts_plc hf hA hH k _ (m + 1) g2 (by omega)
      · exact plc_ok
theorem group_plc {f : Nat → Nat} {n : Nat} {ic nl : Bool} (hf : Br.Txt f n) : ∀ r, Plcs n (group f n ic nl r)
  | 0 => fun i g hi => plc_err (by omega) (by omega)
  | r + 1 => fun i g hi => by
    unfold group
    have h1 := alts_plc (ic := ic) (nl := nl) hf (group_next hf r) (group_plc (ic := ic) (nl := nl) hf r) (n + 1) [] (i + 1) (g + 1) (by omega)
    cases hp : alts f n ic nl (group f n ic nl r) (n + 1) [] (i + 1) (g + 1) with
    | err c p => rw [hp] at h1; exact h1
    | ok u m g2 =>
      simp only
      split
      · exact plc_ok
      · exact plc_err (by omega) (by omega)
/-- The place of a fault lies in the pattern, or at its end. -/
theorem parse_plc {f : Nat → Nat} {n : Nat} {ic nl : Bool} (hf : Br.Txt f n) : Plc n (parse f n ic nl) := by
  unfold parse
  split
  · exact plc_err (by omega) (by omega)
  unfold whole pat
  have h1 := alts_plc (ic := ic) (nl := nl) hf (group_next (ic := ic) (nl := nl) hf 32) (group_plc hf 32) (n + 1) [] 0 0 (by omega)
  cases hp : alts f n ic nl (group f n ic nl 32) (n + 1) [] 0 0 with
  | err c p => rw [hp] at h1; exact h1
  | ok u m g2 =>
    simp only
    split
    · exact plc_err (by omega) (by omega)
    split
    · exact plc_err (by omega) (by omega)
    · exact plc_ok
/-- What H reads is at most m deep, and tidy. -/
def Shallow (m : Nat) (H : Nat → Nat → Out) : Prop := ∀ i g t j g', H i g = .ok t j g' → t.dpT ≤ m ∧ t.tdT g true = some g'
theorem dp_leaf (k : Int) : (Tr.leaf k).dpT = 1 := rfl
theorem dp_bytes (P : Nat → Bool) : (Tr.bytes P).dpT = 1 := rfl
theorem td_leaf (k : Int) (h : k ≠ 7) (h8 : k ≠ 8) (g : Nat) (r : Bool) : (Tr.leaf k).tdT g r = some g := by
  unfold Tr.leaf
  rw [Tr.tdT, if_neg (by simp [h8]), if_neg h]; rfl
theorem td_bytes (P : Nat → Bool) (g : Nat) (r : Bool) : (Tr.bytes P).tdT g r = some g := by
  unfold Tr.bytes
  rw [Tr.tdT, if_neg (by simp), if_neg (by decide)]; rfl
theorem atom_tidy {f : Nat → Nat} {n m i g j g' : Nat} {ic nl : Bool} {H : Nat → Nat → Out} {t : Tr} (hH : Shallow m H) (hm : 1 ≤ m) (h : atom f n ic nl H i g = .ok t j g') : t.dpT ≤ m ∧ t.tdT g true = some g' := by
  unfold atom at h
  split at h
  · exact hH i g t j g' h
  split at h
  · cases hw : Br.whole f n i ic nl with
    | err c p => rw [hw] at h; cases h
    | ok P k =>
      rw [hw] at h
      injection h with h1 h2 h3
      subst h1 h2 h3
      exact ⟨by rw [dp_bytes]; exact hm, td_bytes _ _ _⟩
  split at h
  · split at h
    · injection h with h1 h2 h3
      subst h1 h2 h3
      exact ⟨by unfold one; rw [dp_bytes]; exact hm, td_bytes _ _ _⟩
    · cases h
  split at h
  · injection h with h1 h2 h3
    subst h1 h2 h3
    exact ⟨by unfold dot; rw [dp_bytes]; exact hm, td_bytes _ _ _⟩
  · injection h with h1 h2 h3
    subst h1 h2 h3
    exact ⟨by unfold one; rw [dp_bytes]; exact hm, td_bytes _ _ _⟩
theorem dp_rep (a b : Int) (t : Tr) : (Tr.rep a b t).dpT ≤ t.dpT + 2 := by
  unfold Tr.rep
  rw [Tr.dpT, Tr.dpS, Tr.dpS]
  split
  · omega
  · split <;> omega
theorem td_rep (a b : Int) (t : Tr) (g g' : Nat) (h : t.tdT g true = some g') : (Tr.rep a b t).tdT g false = some g' := by
  unfold Tr.rep
  rw [Tr.tdT, if_neg (by simp), if_neg (by decide), Tr.tdS, show (decide ((8 : Int) = 8)) = true from rfl, h]; rfl
theorem piece_tidy {f : Nat → Nat} {n m i g j g' : Nat} {ic nl : Bool} {H : Nat → Nat → Out} {t : Tr} (hf : Br.Txt f n) (hA : Ahead n H) (hH : Shallow m H) (hm : 1 ≤ m) (hi : i < n) (h : piece f n ic nl H i g = .ok t j g') : t.dpT ≤ m + 2 ∧ t.tdT g false = some g' := by
  unfold piece at h
  split at h
  · injection h with h1 h2 h3; subst h1 h2 h3; exact ⟨by rw [dp_leaf]; omega, td_leaf 3 (by decide) (by decide) _ _⟩
  split at h
  · injection h with h1 h2 h3; subst h1 h2 h3; exact ⟨by rw [dp_leaf]; omega, td_leaf 4 (by decide) (by decide) _ _⟩
  split at h
  · cases h
  cases ha : atom f n ic nl H i g with
  | err c p => rw [ha] at h; cases h
  | ok u k g2 =>
    rw [ha] at h
    have h1 := atom_next hf hA hi ha
    have h3 := atom_tidy hH hm ha
    obtain ⟨-, -, rfl, rfl | ⟨a, b, rfl, -⟩⟩ := rep_ok h hf h1.2
    · exact ⟨by omega, Tr.tdT_weak h3.2⟩
    · exact ⟨by have := dp_rep a b u; omega, td_rep a b u _ _ h3.2⟩
theorem dp_several (k : Int) (h8 : k ≠ 8) (l : List Tr) (m : Nat) (h : Tr.dpS l ≤ m) : (Tr.several k l).dpT ≤ m + 1 := by
  match l, h with
  | [], _ => have := dp_leaf 1; show (Tr.leaf 1).dpT ≤ m + 1; omega
  | [t], h => rw [Tr.dpS, Tr.dpS] at h; show t.dpT ≤ m + 1; omega
  | a :: b :: r, h =>
    show (Tr.many k (a :: b :: r)).dpT ≤ m + 1
    unfold Tr.many
    rw [Tr.dpT, if_neg (by simp), if_neg (by rintro ⟨h1, -⟩; exact h8 h1)]
    omega
theorem td_several (k : Int) (h7 : k ≠ 7) (h8 : k ≠ 8) (l : List Tr) (g g' : Nat) (h : Tr.tdS l g false = some g') : (Tr.several k l).tdT g false = some g' := by
  match l, h with
  | [], h => rw [Tr.tdS] at h; injection h with h; subst h; exact td_leaf 1 (by decide) (by decide) _ _
  | [t], h =>
    show t.tdT g false = some g'
    rw [Tr.tdS] at h
    cases ht : t.tdT g false with
    | none => rw [ht] at h; cases h
    | some g2 => rw [ht] at h; exact h
  | a :: b :: r, h =>
    show (Tr.many k (a :: b :: r)).tdT g false = some g'
    unfold Tr.many
    rw [Tr.tdT, if_neg (by simp), if_neg h7, show (decide (k = 8)) = false from by simpa using h8]
    exact h
theorem branch_tidy {f : Nat → Nat} {n m : Nat} {ic nl : Bool} {H : Nat → Nat → Out} (hf : Br.Txt f n) (hA : Ahead n H) (hH : Shallow m H) (hm : 1 ≤ m) (g0 : Nat) : ∀ {k : Nat} {l : List Tr} {i g j g' : Nat} {t : Tr}, i ≤ n → Tr.dpS l ≤ m + 2 → Tr.tdS l g0 false = some g → branch f n ic nl H k l i g = .ok t j g' → t.dpT ≤ m + 3 ∧ t.tdT g0 false = some g'
  | 0, _, _, _, _, _, _, _, _, _, h => by cases h
  | k + 1, l, i, g, j, g', t, hi, hl, hg, h => by
    unfold branch at h
    split at h
    · injection h with h1 h2 h3; subst h1 h2 h3; exact ⟨dp_several 5 (by decide) l (m + 2) hl, td_several 5 (by decide) (by decide) l _ _ hg⟩
    · rename_i hc
      cases hp : piece f n ic nl H i g with
      | err c p => rw [hp] at h; cases h
      | ok u q g2 =>
        rw [hp] at h
        have h1 := piece_next hf hA (by omega) hp
        have h2 := piece_tidy hf hA hH hm (by omega) hp
        refine branch_tidy hf hA hH hm g0 h1.2 ?_ ?_ h
        · rw [Tr.dpS_append, Tr.dpS, Tr.dpS]; omega
        · rw [Tr.tdS_append, hg]; simp only [Tr.tdS, h2.2]
theorem alts_tidy {f : Nat → Nat} {n m : Nat} {ic nl : Bool} {H : Nat → Nat → Out} (hf : Br.Txt f n) (hA : Ahead n H) (hH : Shallow m H) (hm : 1 ≤ m) (g0 : Nat) : ∀ {k : Nat} {l : List Tr} {i g j g' : Nat} {t : Tr}, i ≤ n → Tr.dpS l ≤ m + 3 → Tr.tdS l g0 false = some g → alts f n ic nl H k l i g = .ok t j g' → t.dpT ≤ m + 4 ∧ t.tdT g0 false = some g'
  | 0, _, _, _, _, _, _, _, _, _, h => by cases h
  | k + 1, l, i, g, j, g', t, hi, hl, hg, h => by
    unfold alts at h
    cases hp : branch f n ic nl H (n + 1) [] i g with
    | err c p => rw [hp] at h; cases h
    | ok u q g2 =>
      rw [hp] at h
      have h1 := branch_next hf hA hi hp
      have h2 := branch_tidy hf hA hH hm g hi (by rw [Tr.dpS]; omega) rfl hp
      have hl2 : Tr.dpS (l ++ [u]) ≤ m + 3 := by rw [Tr.dpS_append, Tr.dpS, Tr.dpS]; omega
      have hg2 : Tr.tdS (l ++ [u]) g0 false = some g2 := by rw [Tr.tdS_append, hg]; simp only [Tr.tdS, h2.2]
      simp only at h
      split at h
      · rename_i hc
        have := hf.lt hc (by omega)
        exact alts_tidy hf hA hH hm g0 (by omega) hl2 hg2 h
      · injection h with h3 h4 h5; subst h3 h4 h5; exact ⟨dp_several 6 (by decide) _ (m + 3) hl2, td_several 6 (by decide) (by decide) _ _ _ hg2⟩
theorem dp_grp (m : Int) (t : Tr) : (Tr.grp m t).dpT = t.dpT + 1 := by
  unfold Tr.grp
  rw [Tr.dpT, if_neg (by simp), if_neg (by rintro ⟨h1, -⟩; exact absurd h1 (by decide)), Tr.dpS, Tr.dpS]; omega
theorem td_grp (t : Tr) (g g' : Nat) (r : Bool) (h : t.tdT (g + 1) false = some g') : (Tr.grp (g + 1 : Nat) t).tdT g r = some g' := by
  unfold Tr.grp
  rw [Tr.tdT, if_neg (by simp), if_pos rfl, if_pos rfl, Tr.tdS, show (decide ((7 : Int) = 8)) = false from rfl, h]; rfl
theorem group_tidy {f : Nat → Nat} {n : Nat} {ic nl : Bool} (hf : Br.Txt f n) : ∀ r, Shallow (5 * r + 1) (group f n ic nl r)
  | 0 => fun i g t j g' h => by cases h
  | r + 1 => fun i g t j g' h => by
    unfold group at h
    cases hp : alts f n ic nl (group f n ic nl r) (n + 1) [] (i + 1) (g + 1) with
    | err c p => rw [hp] at h; cases h
    | ok u m g2 =>
      rw [hp] at h
      simp only at h
      split at h
      · rename_i hc
        injection h with h3 h4 h5
        subst h3 h4 h5
        by_cases hi : i + 1 ≤ n
        · have h2 := alts_tidy hf (group_next hf r) (group_tidy hf r) (by omega) (g + 1) hi (by rw [Tr.dpS]; omega) rfl hp
          exact ⟨by rw [dp_grp]; omega, td_grp u g g2 true h2.2⟩
        · exfalso
          have hb : branch f n ic nl (group f n ic nl r) (n + 1) [] (i + 1) (g + 1) = .ok (.several 5 []) (i + 1) (g + 1) := by
            unfold branch; rw [if_pos (.inl (by omega))]
          unfold alts at hp
          rw [hb] at hp
          simp only at hp
          rw [hf.2 (i + 1) (by omega)] at hp
          simp only [show ¬ (256 = 124) from by decide, if_false] at hp
          injection hp with h6 h7 h8
          subst h7
          rw [hf.2 (i + 1) (by omega)] at hc
          exact absurd hc (by decide)
      · cases h
/-- What is read is in form, small, shallow, and tidy; the groups are told. -/
theorem parse_right {f : Nat → Nat} {n : Nat} {ic nl : Bool} (hf : Br.Txt f n) {t : Tr} {j g : Nat} (h : parse f n ic nl = .ok t j g) : n ≤ 1024 ∧ t.InForm ∧ t.szT ≤ 2000 ∧ t.dpT ≤ 200 ∧ t.tdT 0 false = some g ∧ g ≤ 999 := by
  unfold parse at h
  split at h
  · cases h
  rename_i hn
  unfold whole pat at h
  cases hp : alts f n ic nl (group f n ic nl 32) (n + 1) [] 0 0 with
  | err c p => rw [hp] at h; cases h
  | ok u m g2 =>
    rw [hp] at h
    simp only at h
    split at h
    · cases h
    rename_i hj
    split at h
    · cases h
    rename_i hs
    injection h with h1 h2 h3
    subst h1 h2 h3
    have h4 := alts_next hf (group_next hf 32) (by omega) hp
    have h5 := alts_form hf (group_next hf 32) (group_right hf (by omega) 32 0 (by omega)) (by omega) (fun x hx => by cases hx) (by omega) hp
    have h6 := alts_tidy hf (group_next hf 32) (group_tidy hf 32) (by omega) 0 (by omega) (by rw [Tr.dpS]; omega) rfl hp
    exact ⟨by omega, h5.1, by omega, by omega, h6.2, by omega⟩
end Ep
end Go.Proofs.YtlbhbjmobcikfaaGreatDoor
/- tree.Depth and tree.Check of trees that are right. -/
namespace Go.Proofs.YtlbhbjmobcikfaaGreatDoor
open Go.RowKit
theorem cells10 {w : World} {b : Nat} {x0 x1 x2 x3 x4 x5 x6 x7 x8 x9 : Value} {t : TypeId} (h : w.heap[b]? = some (.cells #[x0, x1, x2, x3, x4, x5, x6, x7, x8, x9] t)) : w.cell? ⟨b, 0, none⟩ = some x0 ∧ w.cell? ⟨b, 5, none⟩ = some x5 ∧ w.cell? ⟨b, 6, none⟩ = some x6 ∧ w.cell? ⟨b, 9, none⟩ = some x9 := by
  simp [World.cell?, h]
theorem allTen {w : World} {b : Nat} {x0 x1 x2 x3 x4 x5 x6 x7 x8 x9 : Value} {t : TypeId} (h : w.heap[b]? = some (.cells #[x0, x1, x2, x3, x4, x5, x6, x7, x8, x9] t)) : w.cell? ⟨b, 0, none⟩ = some x0 ∧ w.cell? ⟨b, 1, none⟩ = some x1 ∧ w.cell? ⟨b, 2, none⟩ = some x2 ∧ w.cell? ⟨b, 3, none⟩ = some x3 ∧ w.cell? ⟨b, 4, none⟩ = some x4 ∧ w.cell? ⟨b, 5, none⟩ = some x5 ∧ w.cell? ⟨b, 6, none⟩ = some x6 ∧ w.cell? ⟨b, 7, none⟩ = some x7 ∧ w.cell? ⟨b, 8, none⟩ = some x8 ∧ w.cell? ⟨b, 9, none⟩ = some x9 := by
  simp [World.cell?, h]
theorem Tr.dpT_eq (t : Tr) : t.dpT = if t.subs.length = 0 then 1 else Tr.dpS t.subs + (if t.kind = 8 ∧ ¬ (t.least = 0 ∧ (t.most = 1 ∨ t.most = -1)) then 2 else 1) := by
  cases t; rw [Tr.dpT]; rfl
set_option maxRecDepth 100000 in
set_option maxHeartbeats 4000000 in
theorem treedepth_any : ∀ t : Tr, t.dpT ≤ 1000 → ∀ (w : World) (B : Nat → Prop) (v : Value), NodeV w B v t → Calls Tryz.prog 36 #[v] w (SizeEnd t.dpT w) := by
  intro t
  induction t using Tr.rec_subs with
  | h t ih =>
    intro hd w B v hv
    obtain ⟨s, rfl, hs⟩ := hv
    obtain ⟨p, cap, rfl, hlen⟩ := hs.slice
    have heq := Tr.dpT_eq t
    rw [heq] at hd ⊢
    have HST := Lib.hid (fun w' => stays_is t (.slice p t.subs.length cap) ⟨_, _, _, rfl⟩ _ rfl w')
    clear heq
    generalize hts : t.subs = ts at *
    have HTS := Lib.hid hts; have IH := Lib.hid ih; have HS := Lib.hid hs
    clear ih hs hts
    unfold Tr.cells at *
    by_cases h0 : ts.length = 0
    · rw [if_pos h0]
      rw [h0]
      clear hd hlen HST HTS IH HS
      go_enter Tryz.func36, Tryz.ntmps36
      go_wp2
      go_ret
      exact ⟨rfl, by go_grown⟩
    · rw [if_neg h0] at hd ⊢
      generalize hD : Tr.dpS ts + (if t.kind = 8 ∧ ¬ (t.least = 0 ∧ (t.most = 1 ∨ t.most = -1)) then 2 else 1) = D at hd ⊢
      have HD := Lib.hid (show D ≤ 1000 ∧ Tr.dpS ts + 1 ≤ D ∧ D ≤ Tr.dpS ts + 2 from ⟨hd, by rw [← hD]; split <;> omega, by rw [← hD]; split <;> omega⟩)
      have HDE := Lib.hid hD
      have e0 : ((ts.length : Int) == 0) = false := by simpa using h0
      have e0' : (ts.length == 0) = false := by simpa using h0
      have Z0 := Lib.hid (heap_alloc_new w (.cells #[.int .i64 t.kind, .int .u64 (Oc.U t.w0), .int .u64 (Oc.U t.w1), .int .u64 (Oc.U t.w2), .int .u64 (Oc.U t.w3), .slice p ts.length cap, .int .i64 t.num, .int .i64 t.least, .int .i64 t.most, .bool t.bare] 28))
      have HW := Lib.hid (show Below w.heap.size w (w.alloc (.cells #[.int .i64 t.kind, .int .u64 (Oc.U t.w0), .int .u64 (Oc.U t.w1), .int .u64 (Oc.U t.w2), .int .u64 (Oc.U t.w3), .slice p ts.length cap, .int .i64 t.num, .int .i64 t.least, .int .i64 t.most, .bool t.bare] 28)) from (Below.refl _ _).alloc (Nat.le_refl _) _)
      have hz : w.heap.size < (w.alloc (.cells #[.int .i64 t.kind, .int .u64 (Oc.U t.w0), .int .u64 (Oc.U t.w1), .int .u64 (Oc.U t.w2), .int .u64 (Oc.U t.w3), .slice p ts.length cap, .int .i64 t.num, .int .i64 t.least, .int .i64 t.most, .bool t.bare] 28)).heap.size := by simp
      clear hd h0 hD
      go_enter Tryz.func36, Tryz.ntmps36
      go_wp2
      generalize w.alloc (.cells #[.int .i64 t.kind, .int .u64 (Oc.U t.w0), .int .u64 (Oc.U t.w1), .int .u64 (Oc.U t.w2), .int .u64 (Oc.U t.w3), .slice p ts.length cap, .int .i64 t.num, .int .i64 t.least, .int .i64 t.most, .bool t.bare] 28) = W0 at *
      go_loopw [3, 13] (fun gv iv wr => ∃ m : Nat, iv = .int .i64 m ∧ m ≤ ts.length ∧ gv = .int .i64 (Tr.dpS (ts.take m) : Nat) ∧ Hid (Below W0.heap.size W0 wr)) (fun _ iv _ => ts.length - (intOf iv).toNat)
      case atStart => exact ⟨0, rfl, Nat.zero_le _, rfl, Lib.hid (Below.refl _ _)⟩
      case round =>
        obtain ⟨m, rfl, hm, rfl, HB⟩ := hrel
        have wm : IntKind.i64.wrap ((m : Int) + 1) = (m : Int) + 1 := IntWalk.i64_in _ (by omega)
        have HBW := Lib.hid (HW.out.trans (HB.out.mono HW.out.size))
        by_cases hlt : m < ts.length
        · obtain ⟨x, hx⟩ : ∃ x, ts[m]? = some x := ⟨_, List.getElem?_eq_getElem hlt⟩
          obtain ⟨b1, o1, s1, rfl, -, t1, sub1⟩ := HS.out.get hx
          obtain ⟨d0, d1, d2, d3, d4, d5, d6, d7, d8, d9⟩ := t1.keep (HBW.out.block _ t1.lt)
          have hmem := List.mem_of_getElem? hx
          obtain ⟨p1, c1, rfl, hl1⟩ := sub1.slice
          have hdx : x.dpT ≤ 1000 := by have := Tr.dpT_le_dpS hmem; have := HD.out; omega
          have HC := Lib.hid (fun w9 hb => IH.out x hmem hdx w9 B (.agg (x.cells (.slice p1 x.subs.length c1))) ⟨_, rfl, sub1.later hb⟩)
          have HSTP := Lib.hid (Tr.dpS_take ts m x hx)
          clear t1 sub1 hmem hx hdx
          generalize hn : Tr.dpS (ts.take m) = n at *
          clear hn
          unfold Tr.cells at HC
          go_wp2_with fail
          generalize hw1 : World.alloc wr _ = w1
          have hb1 : Below wr.heap.size wr w1 := by rw [← hw1]; exact (Below.refl _ _).alloc (Nat.le_refl _) _
          clear hw1
          refine (HC.out w1 (HBW.out.trans (hb1.mono HBW.out.size))).mono ?_
          rintro e w2 ⟨rfl, hb2⟩
          have HB2 := Lib.hid (HB.out.trans ((hb1.trans (hb2.mono hb1.size)).mono HB.out.size))
          clear d0 d1 d2 d3 d4 d5 d6 d7 d8 d9 hb1 hb2 HC
          generalize x.dpT = N at *
          go_wp2
          all_goals
            exact ⟨⟨m + 1, by go_num, by omega, by rw [HSTP.out]; simp; try omega, HB2⟩, by simp [intOf]; omega⟩
        · obtain rfl : m = ts.length := by omega
          rw [List.take_length] at *
          have Z1 := Lib.hid (keep_blk (HB.out.mono (Nat.le_refl _)) Z0.out)
          have hdp := HD.out
          have w2' : IntKind.i64.wrap ((Tr.dpS ts : Int) + 2) = (Tr.dpS ts : Int) + 2 := IntWalk.i64_in _ (by omega)
          have w1' : IntKind.i64.wrap ((Tr.dpS ts : Int) + 1) = (Tr.dpS ts : Int) + 1 := IntWalk.i64_in _ (by omega)
          have hde := HDE.out
          clear hdp
          obtain ⟨d0, d1, d2, d3, d4, d5, d6, d7, d8, d9⟩ := allTen Z1.out
          by_cases h8 : t.kind = 8
          · rw [h8] at HST Z1 HDE d0 hde
            by_cases hst : t.least = 0 ∧ (t.most = 1 ∨ t.most = -1)
            · have hst' : decide (t.least = 0 ∧ (t.most = 1 ∨ t.most = -1)) = true := by simpa using hst
              rw [hst'] at HST
              rw [if_neg (by intro h; exact h.2 hst)] at hde
              have HDF := Lib.hid hde
              clear hst hst' hde
              go_wp2_with fail
              refine (HST.out _).mono ?_
              rintro e w5 ⟨rfl, hb5⟩
              have HB5 := Lib.hid (HBW.out.trans (hb5.mono HBW.out.size))
              clear hb5
              go_wp2
              go_ret
              exact ⟨ret_int (by have := HDF.out; omega), HB5.out⟩
            · have hst' : decide (t.least = 0 ∧ (t.most = 1 ∨ t.most = -1)) = false := by simpa using hst
              rw [hst'] at HST
              rw [if_pos ⟨rfl, hst⟩] at hde
              have HDF := Lib.hid hde
              clear hst hst' hde
              go_wp2_with fail
              refine (HST.out _).mono ?_
              rintro e w5 ⟨rfl, hb5⟩
              have HB5 := Lib.hid (HBW.out.trans (hb5.mono HBW.out.size))
              clear hb5
              go_wp2
              go_ret
              exact ⟨ret_int (by have := HDF.out; omega), HB5.out⟩
          · rw [if_neg (by intro h; exact h8 h.1)] at hde
            have e8 : (t.kind == 8) = false := by simpa using h8
            have HDF := Lib.hid hde
            clear h8 hde
            go_wp2
            go_ret
            exact ⟨ret_int (by have := HDF.out; omega), HBW.out⟩
set_option maxHeartbeats 1000000 in
/-- tree.Check of a right tree. -/
theorem check_any (t : Tr) (hf : t.InForm) (hd : t.dpT ≤ 200) (hz : t.szT ≤ 2000) (w : World) (B : Nat → Prop) (v : Value) (hv : NodeV w B v t) : Calls Tryz.prog 18 #[v] w fun e w' => e = .returned .nilIface ∧ Below w.heap.size w w' := by
  obtain ⟨s, rfl, hs⟩ := hv
  have H1 := Lib.hid (fun w' hb => inform_yes t hf w' B (.agg (t.cells s)) ⟨s, rfl, TreesAt.later (w' := w') hs hb⟩)
  have H2 := Lib.hid (fun w' hb => treedepth_any t (by omega) w' B (.agg (t.cells s)) ⟨s, rfl, TreesAt.later (w' := w') hs hb⟩)
  have H3 := Lib.hid (fun w' hb => treesize_any t hf w' B (.agg (t.cells s)) ⟨s, rfl, TreesAt.later (w' := w') hs hb⟩)
  obtain ⟨p, cap, rfl, hlen⟩ := hs.slice
  have z0 := heap_alloc_new w (.cells (t.cells (.slice p t.subs.length cap)) 28)
  have Z0 := Lib.hid z0
  have e1 : decide ((200 : Int) < t.dpT) = false := by simp; omega
  have e2 : decide ((2000 : Int) < t.szT) = false := by simp; omega
  have e1' : decide (200 < t.dpT) = false := by simp; omega
  have e2' : decide (2000 < t.szT) = false := by simp; omega
  clear hs hf z0 hd hz
  unfold Tr.cells at *
  go_enter Tryz.func18, Tryz.ntmps18
  go_wp2_with (first
    | (refine wpList_load_row rfl 28 (.tmp 1) rfl w.heap.size rfl 28 _ (0, 0) _ Z0.out Tryz.underlying28 rfl (by kernel_rfl) ?_)
    | fail)
  refine (H1.out _ ((Below.refl _ _).alloc (Nat.le_refl _) _)).mono ?_
  rintro e w1 ⟨rfl, hb1⟩
  have Z1 := Lib.hid (keep_blk hb1 Z0.out)
  have HB1 := Lib.hid (((Below.refl w.heap.size w).alloc (Nat.le_refl _) _).trans (hb1.mono (by simp)))
  clear hb1 Z0
  go_wp2_with (first
    | (refine wpList_load_row rfl 28 (.tmp 1) rfl w.heap.size rfl 28 _ (0, 0) _ Z1.out Tryz.underlying28 rfl (by kernel_rfl) ?_)
    | fail)
  refine (H2.out _ HB1.out).mono ?_
  rintro e w2 ⟨rfl, hb2⟩
  have Z2 := Lib.hid (keep_blk hb2 Z1.out)
  have HB2 := Lib.hid (HB1.out.trans (hb2.mono HB1.out.size))
  clear hb2 Z1
  go_wp2_with (first
    | (refine wpList_load_row rfl 28 (.tmp 1) rfl w.heap.size rfl 28 _ (0, 0) _ Z2.out Tryz.underlying28 rfl (by kernel_rfl) ?_)
    | fail)
  refine (H3.out _ HB2.out).mono ?_
  rintro e w3 ⟨rfl, hb3⟩
  have HB3 := Lib.hid (HB2.out.trans (hb3.mono HB2.out.size))
  clear hb3
  go_wp2
  go_ret
  exact ⟨rfl, HB3.out⟩
end Go.Proofs.YtlbhbjmobcikfaaGreatDoor
/- Basic patterns: what is read of a text from the left: a tree, the place behind it and the groups so far; or the first fault. Plain facts: nothing of the program. -/
namespace Go.Proofs.YtlbhbjmobcikfaaGreatDoor
namespace Bp
open Ep (Out)
/-- Do these two bytes stand at a place? -/
def two (f : Nat → Nat) (a b i : Nat) : Bool := f i == a && f (i + 1) == b
theorem two_iff {f : Nat → Nat} {a b i : Nat} : two f a b i = true ↔ f i = a ∧ f (i + 1) = b := by
  unfold two; simp
/-- The next '\}' that begins among the k places from i on. -/
def close (f : Nat → Nat) : Nat → Nat → Option Nat
  | 0, _ => none
  | k + 1, i => if two f 92 125 i then some i else close f k (i + 1)
/-- The repeat behind an atom, if there is one. -/
def rep (f : Nat → Nat) (n : Nat) (t : Tr) (i g : Nat) : Out :=
  if f i = 42 then Ep.counted t 0 (-1) i (i + 1) g
  else if two f 92 123 i then match close f (n - (i + 2)) (i + 2) with
    | none => .err 3 i
    | some e => match Ep.counts f (i + 2) e with
      | none => .err 4 i
      | some (a, b) => Ep.counted t a b i (e + 2) g
  else .ok t i g
/-- What a repeat may stand behind; H: what is read of a group. -/
def atom (f : Nat → Nat) (n : Nat) (ic nl : Bool) (H : Nat → Nat → Out) (i g : Nat) : Out :=
  if f i = 46 then .ok (Ep.dot nl) (i + 1) g
  else if f i = 91 then match Br.whole f n i ic nl with
    | .ok P j => .ok (.bytes P) j g
    | .err c p => .err c p
  else if two f 92 40 i then H i g
  else if two f 92 125 i then .err 3 i
  else if f i = 92 then (if Cl.cls 8 (f (i + 1)) then .ok (Ep.one ic (f (i + 1))) (i + 2) g else .err 8 i)
  else .ok (Ep.one ic (f i)) (i + 1) g
/-- A '$' that is an anchor. -/
def isEnd (f : Nat → Nat) (n i : Nat) : Bool := f i == 36 && (decide (n ≤ i + 1) || two f 92 41 (i + 1))
def piece (f : Nat → Nat) (n : Nat) (ic nl : Bool) (H : Nat → Nat → Out) (i g : Nat) : Out :=
  if isEnd f n i then .ok (.leaf 4) (i + 1) g
  else if f i = 42 then .err 9 i
  else if two f 92 123 i then .err 9 i
  else match atom f n ic nl H i g with
  | .err c p => .err c p
  | .ok t j g' => rep f n t j g'
/-- What is read behind an atom. -/
def more (f : Nat → Nat) (n : Nat) : Out → Out
  | .err c p => .err c p
  | .ok t j g => rep f n t j g
/-- Pieces, those of l ahead of them. -/
def loop (f : Nat → Nat) (n : Nat) (ic nl : Bool) (H : Nat → Nat → Out) : Nat → List Tr → Nat → Nat → Out
  | 0, _, _, _ => .err 0 0
  | k + 1, l, i, g =>
    if n ≤ i ∨ two f 92 41 i = true then .ok (.several 5 l) i g
    else match piece f n ic nl H i g with
    | .err c p => .err c p
    | .ok t j g' => loop f n ic nl H k (l ++ [t]) j g'
/-- Pieces behind an anchor or at the front: a '*' is itself. -/
def star (f : Nat → Nat) (n : Nat) (ic nl : Bool) (H : Nat → Nat → Out) (l : List Tr) (i g : Nat) : Out :=
  if f i = 42 then match rep f n (Ep.one ic 42) (i + 1) g with
    | .err c p => .err c p
    | .ok t j g' => loop f n ic nl H (n + 1) (l ++ [t]) j g'
  else loop f n ic nl H (n + 1) l i g
def seq (f : Nat → Nat) (n : Nat) (ic nl : Bool) (H : Nat → Nat → Out) (i g : Nat) : Out :=
  if f i = 94 then star f n ic nl H [.leaf 3] (i + 1) g else star f n ic nl H [] i g
/-- A group, in which r more may stand in one another. -/
def group (f : Nat → Nat) (n : Nat) (ic nl : Bool) : Nat → Nat → Nat → Out
  | 0, i, _ => .err 11 i
  | r + 1, i, g => match seq f n ic nl (group f n ic nl r) (i + 2) (g + 1) with
    | .err c p => .err c p
    | .ok t j g' => if two f 92 41 j then .ok (.grp (g + 1 : Nat) t) (j + 2) g' else .err 2 i
def pat (f : Nat → Nat) (n : Nat) (ic nl : Bool) (r i g : Nat) : Out := seq f n ic nl (group f n ic nl r) i g
def whole (f : Nat → Nat) (n : Nat) (ic nl : Bool) : Out :=
  match pat f n ic nl 32 0 0 with
  | .err c p => .err c p
  | .ok t j g => if j < n then .err 2 j else if 2000 < t.szT then .err 10 n else .ok t j g
def parse (f : Nat → Nat) (n : Nat) (ic nl : Bool) : Out := if 1024 < n then .err 12 1024 else whole f n ic nl
theorem two_lt {f : Nat → Nat} {n a b i : Nat} (hf : Br.Txt f n) (h : two f a b i = true) (_ha : a < 256) (hb : b < 256) : i + 1 < n := by
  obtain ⟨h1, h2⟩ := two_iff.1 h
  have := hf.lt h2 hb
  omega
theorem close_some {f : Nat → Nat} : ∀ {k i e : Nat}, close f k i = some e → i ≤ e ∧ e < i + k ∧ two f 92 125 e = true ∧ ∀ j, i ≤ j → j < e → two f 92 125 j = false
  | 0, _, _, h => by simp [close] at h
  | k + 1, i, e, h => by
    unfold close at h
    split at h
    · rename_i hc
      obtain rfl := Option.some.inj h
      exact ⟨Nat.le_refl _, by omega, hc, fun j h1 h2 => by omega⟩
    · rename_i hc
      obtain ⟨h1, h2, h3, h4⟩ := close_some h
      refine ⟨by omega, by omega, h3, fun j h5 h6 => ?_⟩
      by_cases e : j = i
      · subst e; simpa using hc
      · exact h4 j (by omega) h6
theorem close_none {f : Nat → Nat} : ∀ {k i : Nat}, close f k i = none → ∀ j, i ≤ j → j < i + k → two f 92 125 j = false
  | 0, _, _, j, h1, h2 => by omega
  | k + 1, i, h, j, h1, h2 => by
    unfold close at h
    split at h
    · cases h
    · rename_i hc
      by_cases e : j = i
      · subst e; simpa using hc
      · exact close_none h j (by omega) (by omega)
theorem rep_ok {f : Nat → Nat} {n i g j g' : Nat} {t u : Tr} (h : rep f n t i g = .ok u j g') (hf : Br.Txt f n) (hi : i ≤ n) :
    i ≤ j ∧ j ≤ n ∧ g' = g ∧ (u = t ∨ ∃ a b, u = .rep a b t ∧ 0 ≤ a ∧ a ≤ 255 ∧ (b = -1 ∨ (a ≤ b ∧ b ≤ 255))) := by
  unfold rep at h
  split at h
  · rename_i hc
    have := hf.lt hc (by omega)
    obtain ⟨rfl, rfl, rfl⟩ := Ep.counted_ok h
    exact ⟨by omega, by omega, rfl, .inr ⟨_, _, rfl, by omega⟩⟩
  split at h
  · split at h
    · cases h
    · rename_i e he
      obtain ⟨h1, h2, h3, -⟩ := close_some he
      have := two_lt hf h3 (by omega) (by omega)
      split at h
      · cases h
      · rename_i a b hab
        obtain ⟨rfl, rfl, rfl⟩ := Ep.counted_ok h
        exact ⟨by omega, by omega, rfl, .inr ⟨_, _, rfl, Ep.counts_ok hab⟩⟩
  · injection h with h1 h2 h3
    subst h1 h2 h3
    exact ⟨Nat.le_refl _, hi, rfl, .inl rfl⟩
/-- What H reads of a group lies behind the place, and within. -/
def Ahead (n : Nat) (H : Nat → Nat → Out) : Prop := ∀ i g t j g', i + 1 < n → H i g = .ok t j g' → i < j ∧ j ≤ n
theorem atom_next {f : Nat → Nat} {n i g j g' : Nat} {ic nl : Bool} {H : Nat → Nat → Out} {t : Tr} (hf : Br.Txt f n) (hH : Ahead n H) (hi : i < n) (h : atom f n ic nl H i g = .ok t j g') : i < j ∧ j ≤ n := by
  unfold atom at h
  split at h
  · injection h with h1 h2 h3; omega
  split at h
  · cases hw : Br.whole f n i ic nl with
    | err c p => rw [hw] at h; cases h
    | ok P k =>
      rw [hw] at h
      injection h with h1 h2 h3
      subst h2
      exact Ep.whole_next hf hi hw
  split at h
  · rename_i hc
    exact hH i g t j g' (two_lt hf hc (by omega) (by omega)) h
  split at h
  · cases h
  split at h
  · split at h
    · rename_i hc
      injection h with h1 h2 h3
      have : i + 1 < n := by
        by_cases hl : i + 1 < n
        · exact hl
        · rw [hf.2 (i + 1) (by omega)] at hc; exact absurd hc (by decide)
      omega
    · cases h
  · injection h with h1 h2 h3; omega
theorem piece_next {f : Nat → Nat} {n i g j g' : Nat} {ic nl : Bool} {H : Nat → Nat → Out} {t : Tr} (hf : Br.Txt f n) (hH : Ahead n H) (hi : i < n) (h : piece f n ic nl H i g = .ok t j g') : i < j ∧ j ≤ n := by
  unfold piece at h
  split at h
  · injection h with h1 h2 h3; omega
  split at h
  · cases h
  split at h
  · cases h
  cases ha : atom f n ic nl H i g with
  | err c p => rw [ha] at h; cases h
  | ok u k g2 =>
    rw [ha] at h
    have h1 := atom_next hf hH hi ha
    have h2 := rep_ok h hf h1.2
    omega
theorem loop_next {f : Nat → Nat} {n : Nat} {ic nl : Bool} {H : Nat → Nat → Out} (hf : Br.Txt f n) (hH : Ahead n H) : ∀ {k : Nat} {l : List Tr} {i g j g' : Nat} {t : Tr}, i ≤ n → loop f n ic nl H k l i g = .ok t j g' → i ≤ j ∧ j ≤ n
  | 0, _, _, _, _, _, _, _, h => by cases h
  | k + 1, l, i, g, j, g', t, hi, h => by
    unfold loop at h
    split at h
    · injection h with h1 h2 h3; omega
    · rename_i hc
      cases hp : piece f n ic nl H i g with
      | err c p => rw [hp] at h; cases h
      | ok u m g2 =>
        rw [hp] at h
        have h1 := piece_next hf hH (by omega) hp
        have h2 := loop_next hf hH h1.2 h
        omega
theorem star_next {f : Nat → Nat} {n : Nat} {ic nl : Bool} {H : Nat → Nat → Out} (hf : Br.Txt f n) (hH : Ahead n H) {l : List Tr} {i g j g' : Nat} {t : Tr} (hi : i ≤ n) (h : star f n ic nl H l i g = .ok t j g') : i ≤ j ∧ j ≤ n := by
  unfold star at h
  split at h
  · rename_i hc
    have := hf.lt hc (by omega)
    cases hp : rep f n (Ep.one ic 42) (i + 1) g with
    | err c p => rw [hp] at h; cases h
    | ok u m g2 =>
      rw [hp] at h
      have h1 := rep_ok hp hf (by omega)
      have h2 := loop_next hf hH h1.2.1 h
      omega
  · exact loop_next hf hH hi h
theorem seq_next {f : Nat → Nat} {n : Nat} {ic nl : Bool} {H : Nat → Nat → Out} (hf : Br.Txt f n) (hH : Ahead n H) {i g j g' : Nat} {t : Tr} (hi : i ≤ n) (h : seq f n ic nl H i g = .ok t j g') : i ≤ j ∧ j ≤ n := by
  unfold seq at h
  split at h
  · rename_i hc
    have := hf.lt hc (by omega)
    have := star_next hf hH (by omega) h
    omega
  · exact star_next hf hH hi h
theorem group_next {f : Nat → Nat} {n : Nat} {ic nl : Bool} (hf : Br.Txt f n) : ∀ r, Ahead n (group f n ic nl r)
  | 0 => fun i g t j g' _ h => by cases h
  | r + 1 => fun i g t j g' hi h => by
    unfold group at h
    cases hp : seq f n ic nl (group f n ic nl r) (i + 2) (g + 1) with
    | err c p => rw [hp] at h; cases h
    | ok u m g2 =>
      rw [hp] at h
      have h1 := seq_next hf (group_next hf r) (by omega) hp
      simp only at h
      split at h
      · rename_i hc
        have := two_lt hf hc (by omega) (by omega)
        injection h with h3 h4 h5
        omega
      · cases h
/-- What H reads is in form; groups are few. -/
def Right (n : Nat) (H : Nat → Nat → Out) : Prop := ∀ i g t j g', i + 1 < n → 2 * g ≤ i → H i g = .ok t j g' → t.InForm ∧ 2 * g' ≤ j
theorem atom_form {f : Nat → Nat} {n i g j g' : Nat} {ic nl : Bool} {H : Nat → Nat → Out} {t : Tr} (hf : Br.Txt f n) (hA : Ahead n H) (hH : Right n H) (hi : i < n) (hg : 2 * g ≤ i) (h : atom f n ic nl H i g = .ok t j g') : t.InForm ∧ 2 * g' ≤ j := by
  have hn := atom_next hf hA hi h
  unfold atom at h
  split at h
  · injection h with h1 h2 h3
    subst h1 h2 h3
    exact ⟨Ep.form_bytes _, by omega⟩
  split at h
  · cases hw : Br.whole f n i ic nl with
    | err c p => rw [hw] at h; cases h
    | ok P k =>
      rw [hw] at h
      injection h with h1 h2 h3
      subst h1 h2 h3
      exact ⟨Ep.form_bytes _, by omega⟩
  split at h
  · rename_i hc
    exact hH i g t j g' (two_lt hf hc (by omega) (by omega)) hg h
  split at h
  · cases h
  split at h
  · split at h
    · injection h with h1 h2 h3
      subst h1 h2 h3
      exact ⟨Ep.form_bytes _, by omega⟩
    · cases h
  · injection h with h1 h2 h3
    subst h1 h2 h3
    exact ⟨Ep.form_bytes _, by omega⟩
theorem rep_form {f : Nat → Nat} {n i g j g' : Nat} {t u : Tr} (h : rep f n t i g = .ok u j g') (hf : Br.Txt f n) (hi : i ≤ n) (ht : t.InForm) : u.InForm := by
  obtain ⟨-, -, -, rfl | ⟨a, b, rfl, h1, h2, h3⟩⟩ := rep_ok h hf hi
  · exact ht
  · exact Ep.form_rep a b t h1 h2 h3 ht
theorem piece_form {f : Nat → Nat} {n i g j g' : Nat} {ic nl : Bool} {H : Nat → Nat → Out} {t : Tr} (hf : Br.Txt f n) (hA : Ahead n H) (hH : Right n H) (hi : i < n) (hg : 2 * g ≤ i) (h : piece f n ic nl H i g = .ok t j g') : t.InForm ∧ 2 * g' ≤ j := by
  unfold piece at h
  split at h
  · injection h with h1 h2 h3; subst h1 h2 h3; exact ⟨Ep.form_leaf 4 (by omega), by omega⟩
  split at h
  · cases h
  split at h
  · cases h
  cases ha : atom f n ic nl H i g with
  | err c p => rw [ha] at h; cases h
  | ok u k g2 =>
    rw [ha] at h
    have h1 := atom_next hf hA hi ha
    have h2 := rep_ok h hf h1.2
    have h3 := atom_form hf hA hH hi hg ha
    exact ⟨rep_form h hf h1.2 h3.1, by omega⟩
theorem loop_form {f : Nat → Nat} {n : Nat} {ic nl : Bool} {H : Nat → Nat → Out} (hf : Br.Txt f n) (hA : Ahead n H) (hH : Right n H) : ∀ {k : Nat} {l : List Tr} {i g j g' : Nat} {t : Tr}, i ≤ n → (∀ u, u ∈ l → u.InForm) → 2 * g ≤ i → loop f n ic nl H k l i g = .ok t j g' → t.InForm ∧ 2 * g' ≤ j
  | 0, _, _, _, _, _, _, _, _, _, h => by cases h
  | k + 1, l, i, g, j, g', t, hi, hl, hg, h => by
    unfold loop at h
    split at h
    · injection h with h1 h2 h3; subst h1 h2 h3; exact ⟨Ep.form_several 5 (.inl rfl) l hl, hg⟩
    · rename_i hc
      cases hp : piece f n ic nl H i g with
      | err c p => rw [hp] at h; cases h
      | ok u m g2 =>
        rw [hp] at h
        have h1 := piece_next hf hA (by omega) hp
        have h2 := piece_form hf hA hH (by omega) hg hp
        refine loop_form hf hA hH h1.2 (fun x hx => ?_) h2.2 h
        rcases List.mem_append.1 hx with hx | hx
        · exact hl x hx
        · rw [List.mem_singleton.1 hx]; exact h2.1
theorem star_form {f : Nat → Nat} {n : Nat} {ic nl : Bool} {H : Nat → Nat → Out} (hf : Br.Txt f n) (hA : Ahead n H) (hH : Right n H) {l : List Tr} {i g j g' : Nat} {t : Tr} (hi : i ≤ n) (hl : ∀ u, u ∈ l → u.InForm) (hg : 2 * g ≤ i) (h : star f n ic nl H l i g = .ok t j g') : t.InForm ∧ 2 * g' ≤ j := by
  unfold star at h
  split at h
  · rename_i hc
    have := hf.lt hc (by omega)
    cases hp : rep f n (Ep.one ic 42) (i + 1) g with
    | err c p => rw [hp] at h; cases h
    | ok u m g2 =>
      rw [hp] at h
      have h1 := rep_ok hp hf (by omega)
      have h2 := rep_form hp hf (by omega) (Ep.form_bytes _)
      refine loop_form hf hA hH h1.2.1 (fun x hx => ?_) (by omega) h
      rcases List.mem_append.1 hx with hx | hx
      · exact hl x hx
      · rw [List.mem_singleton.1 hx]; exact h2
  · exact loop_form hf hA hH hi hl hg h
theorem seq_form {f : Nat → Nat} {n : Nat} {ic nl : Bool} {H : Nat → Nat → Out} (hf : Br.Txt f n) (hA : Ahead n H) (hH : Right n H) {i g j g' : Nat} {t : Tr} (hi : i ≤ n) (hg : 2 * g ≤ i) (h : seq f n ic nl H i g = .ok t j g') : t.InForm ∧ 2 * g' ≤ j := by
  unfold seq at h
  split at h
  · rename_i hc
    have := hf.lt hc (by omega)
    refine star_form hf hA hH (by omega) (fun x hx => ?_) (by omega) h
    rw [List.mem_singleton.1 hx]; exact Ep.form_leaf 3 (by omega)
  · exact star_form hf hA hH hi (fun x hx => by cases hx) hg h
theorem group_right {f : Nat → Nat} {n : Nat} {ic nl : Bool} (hf : Br.Txt f n) (hn : n ≤ 1024) : ∀ r, Right n (group f n ic nl r)
  | 0 => fun i g t j g' _ _ h => by cases h
  | r + 1 => fun i g t j g' hi hg h => by
    unfold group at h
    cases hp : seq f n ic nl (group f n ic nl r) (i + 2) (g + 1) with
    | err c p => rw [hp] at h; cases h
    | ok u m g2 =>
      rw [hp] at h
      have h1 := seq_next hf (group_next hf r) (by omega) hp
      have h2 := seq_form hf (group_next hf r) (group_right hf hn r) (by omega) (by omega) hp
      simp only at h
      split at h
      · rename_i hc
        injection h with h3 h4 h5
        subst h3 h4 h5
        exact ⟨Ep.form_grp _ _ (by omega) (by omega) h2.1, by omega⟩
      · cases h
end Bp
end Go.Proofs.YtlbhbjmobcikfaaGreatDoor
/- What a read basic pattern is: its faults lie in the text, its tree isn't deep, has no alternatives and no repeats in repeats, and its groups are numbered from the left. Plain facts: nothing of the program. -/
namespace Go.Proofs.YtlbhbjmobcikfaaGreatDoor
namespace Tr
mutual
/-- As tdT; an alternative is refused, too. -/
def teT : Tr → Nat → Bool → Option Nat
  | .node k _ _ _ _ s m _ _ br, g, r => if k = 6 ∨ br = true ∨ (r = true ∧ k = 8) then none else if k = 7 then (if m = (g + 1 : Nat) then teS s (g + 1) (decide (k = 8)) else none) else teS s g (decide (k = 8))
def teS : List Tr → Nat → Bool → Option Nat
  | [], g, _ => some g
  | t :: l, g, r => match teT t g r with
    | some g' => teS l g' r
    | none => none
end
theorem teS_append : ∀ (l m : List Tr) (g : Nat) (r : Bool), teS (l ++ m) g r = match teS l g r with
    | some g' => teS m g' r
    | none => none
  | [], m, g, r => by simp [teS]
  | t :: l, m, g, r => by
    rw [List.cons_append, teS, teS]
    cases teT t g r with
    | none => rfl
    | some g' => exact teS_append l m g' r
theorem teT_weak {t : Tr} {g g' : Nat} (h : teT t g true = some g') : teT t g false = some g' := by
  cases t with
  | node k a b c d s m lo hi br =>
    rw [teT] at h ⊢
    split at h
    · cases h
    · rename_i hc
      rw [if_neg (by
        rintro (h1 | h1 | ⟨h1, -⟩)
        · exact hc (.inl h1)
        · exact hc (.inr (.inl h1))
        · cases h1)]
      exact h
end Tr
namespace Bp
open Ep (Out Plc plc_err plc_ok counted_plc dp_leaf dp_bytes dp_rep dp_several dp_grp)
theorem rep_plc {f : Nat → Nat} {n i g : Nat} {t : Tr} (h : i ≤ n) : Plc n (rep f n t i g) := by
  unfold rep
  split
  · exact counted_plc h
  split
  · split
    · exact plc_err (by omega) (by omega)
    · split
      · exact plc_err (by omega) (by omega)
      · exact counted_plc h
  · exact plc_ok
def Plcs (n : Nat) (H : Nat → Nat → Out) : Prop := ∀ i g, i + 1 < n → Plc n (H i g)
theorem atom_plc {f : Nat → Nat} {n i g : Nat} {ic nl : Bool} {H : Nat → Nat → Out} (hf : Br.Txt f n) (hH : Plcs n H) (hi : i < n) : Plc n (atom f n ic nl H i g) := by
  unfold atom
  split
  · exact plc_ok
  split
  · cases hw : Br.whole f n i ic nl with
    | ok P j => exact plc_ok
    | err c p => exact plc_err (Br.whole_at hf hi hw).1 (Br.whole_at hf hi hw).2
  split
  · rename_i hc
    exact hH i g (two_lt hf hc (by omega) (by omega))
  split
  · exact plc_err (by omega) (by omega)
  split
  · split
    · exact plc_ok
    · exact plc_err (by omega) (by omega)
  · exact plc_ok
theorem piece_plc {f : Nat → Nat} {n i g : Nat} {ic nl : Bool} {H : Nat → Nat → Out} (hf : Br.Txt f n) (hA : Ahead n H) (hH : Plcs n H) (hi : i < n) : Plc n (piece f n ic nl H i g) := by
  unfold piece
  split
  · exact plc_ok
  split
  · exact plc_err (by omega) (by omega)
  split
  · exact plc_err (by omega) (by omega)
  have h1 := atom_plc (ic := ic) (nl := nl) (g := g) hf hH hi
  cases ha : atom f n ic nl H i g with
  | err c p => rw [ha] at h1; exact h1
  | ok u k g2 => exact rep_plc (atom_next hf hA hi ha).2
theorem loop_plc {f : Nat → Nat} {n : Nat} {ic nl : Bool} {H : Nat → Nat → Out} (hf : Br.Txt f n) (hA : Ahead n H) (hH : Plcs n H) : ∀ (k : Nat) (l : List Tr) (i g : Nat), i ≤ n → Plc n (loop f n ic nl H k l i g)
  | 0, _, _, _, _ => plc_err (by omega) (by omega)
  | k + 1, l, i, g, hi => by
    unfold loop
    split
    · exact plc_ok
    · rename_i hc
      have h1 := piece_plc (ic := ic) (nl := nl) (g := g) hf hA hH (i := i) (by omega)
      cases hp : piece f n ic nl H i g with
      | err c p => rw [hp] at h1; exact h1
      | ok u m g2 => exact loop_plc hf hA hH k _ m g2 (piece_next hf hA (by omega) hp).2
theorem star_plc {f : Nat → Nat} {n : Nat} {ic nl : Bool} {H : Nat → Nat → Out} (hf : Br.Txt f n) (hA : Ahead n H) (hH : Plcs n H) (l : List Tr) (i g : Nat) (hi : i ≤ n) : Plc n (star f n ic nl H l i g) := by
  unfold star
  split
  · rename_i hc
    have := hf.lt hc (by omega)
    have h1 := rep_plc (f := f) (n := n) (i := i + 1) (g := g) (t := Ep.one ic 42) (by omega)
    cases hp : rep f n (Ep.one ic 42) (i + 1) g with
    | err c p => rw [hp] at h1; exact h1
    | ok u m g2 => exact loop_plc hf hA hH _ _ m g2 (rep_ok hp hf (by omega)).2.1
  · exact loop_plc hf hA hH _ _ i g hi
theorem seq_plc {f : Nat → Nat} {n : Nat} {ic nl : Bool} {H : Nat → Nat → Out} (hf : Br.Txt f n) (hA : Ahead n H) (hH : Plcs n H) (i g : Nat) (hi : i ≤ n) : Plc n (seq f n ic nl H i g) := by
  unfold seq
  split
  · rename_i hc
    have := hf.lt hc (by omega)
    exact star_plc hf hA hH _ _ _ (by omega)
  · exact star_plc hf hA hH _ _ _ hi
theorem group_plc {f : Nat → Nat} {n : Nat} {ic nl : Bool} (hf : Br.Txt f n) : ∀ r, Plcs n (group f n ic nl r)
  | 0 => fun i g hi => plc_err (by omega) (by omega)
  | r + 1 => fun i g hi => by
    unfold group
    have h1 := seq_plc (ic := ic) (nl := nl) hf (group_next hf r) (group_plc (ic := ic) (nl := nl) hf r) (i + 2) (g + 1) (by omega)
    cases hp : seq f n ic nl (group f n ic nl r) (i + 2) (g + 1) with
    | err c p => rw [hp] at h1; exact h1
    | ok u m g2 =>
      simp only
      split
      · exact plc_ok
      · exact plc_err (by omega) (by omega)
/-- The place of a fault lies in the pattern, or at its end. -/
theorem parse_plc {f : Nat → Nat} {n : Nat} {ic nl : Bool} (hf : Br.Txt f n) : Plc n (parse f n ic nl) := by
  unfold parse
  split
  · exact plc_err (by omega) (by omega)
  unfold whole pat
  have h1 := seq_plc (ic := ic) (nl := nl) hf (group_next (ic := ic) (nl := nl) hf 32) (group_plc hf 32) 0 0 (by omega)
  cases hp : seq f n ic nl (group f n ic nl 32) 0 0 with
  | err c p => rw [hp] at h1; exact h1
  | ok u m g2 =>
    simp only
    split
    · exact plc_err (by omega) (by omega)
    split
    · exact plc_err (by omega) (by omega)
    · exact plc_ok
/-- What H reads is at most m deep, and tidy. -/
def Shallow (n m : Nat) (H : Nat → Nat → Out) : Prop := ∀ i g t j g', i + 1 < n → H i g = .ok t j g' → t.dpT ≤ m ∧ t.teT g true = some g'
theorem te_leaf (k : Int) (h6 : k ≠ 6) (h : k ≠ 7) (h8 : k ≠ 8) (g : Nat) (r : Bool) : (Tr.leaf k).teT g r = some g := by
  unfold Tr.leaf
  rw [Tr.teT, if_neg (by simp [h8, h6]), if_neg h]; rfl
theorem te_bytes (P : Nat → Bool) (g : Nat) (r : Bool) : (Tr.bytes P).teT g r = some g := by
  unfold Tr.bytes
  rw [Tr.teT, if_neg (by simp), if_neg (by decide)]; rfl
theorem atom_tidy {f : Nat → Nat} {n m i g j g' : Nat} {ic nl : Bool} {H : Nat → Nat → Out} {t : Tr} (hf : Br.Txt f n) (hH : Shallow n m H) (hm : 1 ≤ m) (h : atom f n ic nl H i g = .ok t j g') : t.dpT ≤ m ∧ t.teT g true = some g' := by
  unfold atom at h
  split at h
  · injection h with h1 h2 h3
    subst h1 h2 h3
    exact ⟨by unfold Ep.dot; rw [dp_bytes]; exact hm, te_bytes _ _ _⟩
  split at h
  · cases hw : Br.whole f n i ic nl with
    | err c p => rw [hw] at h; cases h
    | ok P k =>
      rw [hw] at h
      injection h with h1 h2 h3
      subst h1 h2 h3
      exact ⟨by rw [dp_bytes]; exact hm, te_bytes _ _ _⟩
  split at h
  · rename_i hc
    exact hH i g t j g' (two_lt hf hc (by omega) (by omega)) h
  split at h
  · cases h
  split at h
  · split at h
    · injection h with h1 h2 h3
      subst h1 h2 h3
      exact ⟨by unfold Ep.one; rw [dp_bytes]; exact hm, te_bytes _ _ _⟩
    · cases h
  · injection h with h1 h2 h3
    subst h1 h2 h3
    exact ⟨by unfold Ep.one; rw [dp_bytes]; exact hm, te_bytes _ _ _⟩
theorem te_rep (a b : Int) (t : Tr) (g g' : Nat) (h : t.teT g true = some g') : (Tr.rep a b t).teT g false = some g' := by
  unfold Tr.rep
  rw [Tr.teT, if_neg (by simp), if_neg (by decide), Tr.teS, show (decide ((8 : Int) = 8)) = true from rfl, h]; rfl
theorem rep_tidy {f : Nat → Nat} {n m i g j g' g0 : Nat} {t u : Tr} (hf : Br.Txt f n) (hi : i ≤ n) (hd : t.dpT ≤ m) (ht : t.teT g0 true = some g) (h : rep f n t i g = .ok u j g') : u.dpT ≤ m + 2 ∧ u.teT g0 false = some g' := by
  obtain ⟨-, -, rfl, rfl | ⟨a, b, rfl, -⟩⟩ := rep_ok h hf hi
  · exact ⟨by omega, Tr.teT_weak ht⟩
  · exact ⟨by have := dp_rep a b t; omega, te_rep a b t _ _ ht⟩
theorem piece_tidy {f : Nat → Nat} {n m i g j g' : Nat} {ic nl : Bool} {H : Nat → Nat → Out} {t : Tr} (hf : Br.Txt f n) (hA : Ahead n H) (hH : Shallow n m H) (hm : 1 ≤ m) (hi : i < n) (h : piece f n ic nl H i g = .ok t j g') : t.dpT ≤ m + 2 ∧ t.teT g false = some g' := by
  unfold piece at h
  split at h
  · injection h with h1 h2 h3; subst h1 h2 h3; exact ⟨by rw [dp_leaf]; omega, te_leaf 4 (by decide) (by decide) (by decide) _ _⟩
  split at h
  · cases h
  split at h
  · cases h
  cases ha : atom f n ic nl H i g with
  | err c p => rw [ha] at h; cases h
  | ok u k g2 =>
    rw [ha] at h
    have h1 := atom_next hf hA hi ha
    have h3 := atom_tidy hf hH hm ha
    exact rep_tidy hf h1.2 h3.1 h3.2 h
theorem te_several (l : List Tr) (g g' : Nat) (h : Tr.teS l g false = some g') : (Tr.several 5 l).teT g false = some g' := by
  match l, h with
  | [], h => rw [Tr.teS] at h; injection h with h; subst h; exact te_leaf 1 (by decide) (by decide) (by decide) _ _
  | [t], h =>
    show t.teT g false = some g'
    rw [Tr.teS] at h
    cases ht : t.teT g false with
    | none => rw [ht] at h; cases h
    | some g2 => rw [ht] at h; exact h
  | a :: b :: r, h =>
    show (Tr.many 5 (a :: b :: r)).teT g false = some g'
    unfold Tr.many
    rw [Tr.teT, if_neg (by simp), if_neg (by decide), show (decide ((5 : Int) = 8)) = false from rfl]
    exact h
theorem loop_tidy {f : Nat → Nat} {n m : Nat} {ic nl : Bool} {H : Nat → Nat → Out} (hf : Br.Txt f n) (hA : Ahead n H) (hH : Shallow n m H) (hm : 1 ≤ m) (g0 : Nat) : ∀ {k : Nat} {l : List Tr} {i g j g' : Nat} {t : Tr}, i ≤ n → Tr.dpS l ≤ m + 2 → Tr.teS l g0 false = some g → loop f n ic nl H k l i g = .ok t j g' → t.dpT ≤ m + 3 ∧ t.teT g0 false = some g'
  | 0, _, _, _, _, _, _, _, _, _, h => by cases h
  | k + 1, l, i, g, j, g', t, hi, hl, hg, h => by
    unfold loop at h
    split at h
    · injection h with h1 h2 h3; subst h1 h2 h3; exact ⟨dp_several 5 (by decide) l (m + 2) hl, te_several l _ _ hg⟩
    · rename_i hc
      cases hp : piece f n ic nl H i g with
      | err c p => rw [hp] at h; cases h
      | ok u q g2 =>
        rw [hp] at h
        have h1 := piece_next hf hA (by omega) hp
        have h2 := piece_tidy hf hA hH hm (by omega) hp
        refine loop_tidy hf hA hH hm g0 h1.2 ?_ ?_ h
        · rw [Tr.dpS_append, Tr.dpS, Tr.dpS]; omega
        · rw [Tr.teS_append, hg]; simp only [Tr.teS, h2.2]
theorem star_tidy {f : Nat → Nat} {n m : Nat} {ic nl : Bool} {H : Nat → Nat → Out} (hf : Br.Txt f n) (hA : Ahead n H) (hH : Shallow n m H) (hm : 1 ≤ m) {l : List Tr} {i g j g' : Nat} {t : Tr} (hi : i ≤ n) (hl : Tr.dpS l ≤ m + 2) (hg : Tr.teS l g false = some g) (h : star f n ic nl H l i g = .ok t j g') : t.dpT ≤ m + 3 ∧ t.teT g false = some g' := by
  unfold star at h
  split at h
  · rename_i hc
    have := hf.lt hc (by omega)
    cases hp : rep f n (Ep.one ic 42) (i + 1) g with
    | err c p => rw [hp] at h; cases h
    | ok u q g2 =>
      rw [hp] at h
      have h1 := rep_ok hp hf (by omega)
      have h2 := rep_tidy (m := m) hf (by omega) (by rw [dp_bytes]; exact hm) (te_bytes _ g true) hp
      refine loop_tidy hf hA hH hm g h1.2.1 ?_ ?_ h
      · rw [Tr.dpS_append, Tr.dpS, Tr.dpS]; omega
      · rw [Tr.teS_append, hg]; simp only [Tr.teS, h2.2]
  · exact loop_tidy hf hA hH hm g hi hl hg h
theorem seq_tidy {f : Nat → Nat} {n m : Nat} {ic nl : Bool} {H : Nat → Nat → Out} (hf : Br.Txt f n) (hA : Ahead n H) (hH : Shallow n m H) (hm : 1 ≤ m) {i g j g' : Nat} {t : Tr} (hi : i ≤ n) (h : seq f n ic nl H i g = .ok t j g') : t.dpT ≤ m + 3 ∧ t.teT g false = some g' := by
  unfold seq at h
  split at h
  · rename_i hc
    have := hf.lt hc (by omega)
    refine star_tidy hf hA hH hm (by omega) ?_ ?_ h
    · rw [Tr.dpS, Tr.dpS, dp_leaf]; omega
    · rw [Tr.teS, te_leaf 3 (by decide) (by decide) (by decide)]; rfl
  · exact star_tidy hf hA hH hm hi (by rw [Tr.dpS]; omega) rfl h
theorem te_grp (t : Tr) (g g' : Nat) (r : Bool) (h : t.teT (g + 1) false = some g') : (Tr.grp (g + 1 : Nat) t).teT g r = some g' := by
  unfold Tr.grp
  rw [Tr.teT, if_neg (by simp), if_pos rfl, if_pos rfl, Tr.teS, show (decide ((7 : Int) = 8)) = false from rfl, h]; rfl
theorem group_tidy {f : Nat → Nat} {n : Nat} {ic nl : Bool} (hf : Br.Txt f n) : ∀ r, Shallow n (4 * r + 1) (group f n ic nl r)
  | 0 => fun i g t j g' _ h => by cases h
  | r + 1 => fun i g t j g' hi h => by
    unfold group at h
    cases hp : seq f n ic nl (group f n ic nl r) (i + 2) (g + 1) with
    | err c p => rw [hp] at h; cases h
    | ok u m g2 =>
      rw [hp] at h
      simp only at h
      split at h
      · injection h with h3 h4 h5
        subst h3 h4 h5
        have h2 := seq_tidy hf (group_next hf r) (group_tidy hf r) (by omega) (by omega) hp
        exact ⟨by rw [dp_grp]; omega, te_grp u g g2 true h2.2⟩
      · cases h
/-- What is read is in form, small, shallow, and tidy; the groups are told. -/
theorem parse_right {f : Nat → Nat} {n : Nat} {ic nl : Bool} (hf : Br.Txt f n) {t : Tr} {j g : Nat} (h : parse f n ic nl = .ok t j g) : n ≤ 1024 ∧ t.InForm ∧ t.szT ≤ 2000 ∧ t.dpT ≤ 200 ∧ t.teT 0 false = some g ∧ g ≤ 999 := by
  unfold parse at h
  split at h
  · cases h
  rename_i hn
  unfold whole pat at h
  cases hp : seq f n ic nl (group f n ic nl 32) 0 0 with
  | err c p => rw [hp] at h; cases h
  | ok u m g2 =>
    rw [hp] at h
    simp only at h
    split at h
    · cases h
    rename_i hj
    split at h
    · cases h
    rename_i hs
    injection h with h1 h2 h3
    subst h1 h2 h3
    have h4 := seq_next hf (group_next hf 32) (by omega) hp
    have h5 := seq_form hf (group_next hf 32) (group_right hf (by omega) 32) (by omega) (by omega) hp
    have h6 := seq_tidy hf (group_next hf 32) (group_tidy hf 32) (by omega) (by omega) hp
    exact ⟨by omega, h5.1, by omega, by omega, h6.2, by omega⟩
end Bp
end Go.Proofs.YtlbhbjmobcikfaaGreatDoor
/- Links that come in as a list; the last of a kind; At, In and the law's wrapping. -/
namespace Go.Proofs.YtlbhbjmobcikfaaGreatDoor
open Go.RowKit Go.Extern.Stop Go.Stop Go.Extern
/-- A list of links in memory. -/
def LinksAt (w : World) (p : Option Addr) (len : Nat) (L : Nat → Bool × Int) : Prop :=
  ∀ i, i < len → ∃ b o, p = some ⟨b, o, none⟩ ∧ w.cell? ⟨b, o + i * 2, none⟩ = some (.bool (L i).1) ∧ w.cell? ⟨b, o + i * 2 + 1, none⟩ = some (.int .i64 (L i).2)
theorem LinksAt.later {w w' : World} {p : Option Addr} {len : Nat} {L : Nat → Bool × Int} (h : LinksAt w p len L) (hb : Below w.heap.size w w') : LinksAt w' p len L := by
  intro i hi
  obtain ⟨b, o, e, h0, h1⟩ := h i hi
  exact ⟨b, o, e, (hb.cell (p := ⟨b, _, none⟩) (block_lt_of_cell h0)).trans h0, (hb.cell (p := ⟨b, _, none⟩) (block_lt_of_cell h1)).trans h1⟩
/-- The last of a kind among the first m. -/
def lastN (k : Bool) (L : Nat → Bool × Int) : Nat → Option Int
  | 0 => none
  | m + 1 => if (L m).1 = k then some (L m).2 else lastN k L m
/-- An error of a kind that is new, around another one. -/
def NewLink (T : TypeId) (n : Int) (v : Value) (w : World) (e : Ending) (w' : World) : Prop :=
  ∃ p, e = .returned (.iface T (.pointer (some ⟨p, 0, none⟩))) ∧ w.heap.size ≤ p ∧ Below w.heap.size w w' ∧ w'.cell? ⟨p, 0, none⟩ = some (.int .i64 n) ∧ w'.cell? ⟨p, 1, none⟩ = some v
theorem at_any (n : Int) (t : TypeId) (q : Value) (w : World) : Calls Tryz.prog 29 #[.int .i64 n, .iface t q] w (NewLink 65 n (.iface t q) w) := by
  go_enter Tryz.func29, Tryz.ntmps29
  go_wp2
  go_ret
  exact ⟨w.heap.size, rfl, Nat.le_refl _, (Below.refl _ _).alloc (Nat.le_refl _) _, by rw [cell_new]; rfl, by rw [cell_new]; rfl⟩
def orO (a b : Option Int) : Option Int := match a with | some x => some x | none => b
theorem NewLink.fault {n : Int} {v base : Value} {l : List (Bool × Int × Nat)} {w : World} {e : Ending} {w' : World} (h : NewLink 65 n v w e w') (hw : Wrapped w base l v) :
    ∃ p, e = .returned (.iface 65 (.pointer (some ⟨p, 0, none⟩))) ∧ Below w.heap.size w w' ∧ Wrapped w' base ((false, n, p) :: l) (.iface 65 (.pointer (some ⟨p, 0, none⟩))) := by
  obtain ⟨p, rfl, _, hb, h0, h1⟩ := h
  exact ⟨p, rfl, hb, .fault n p h0 h1 (hw.later hb)⟩
/-- What links leave of an error. -/
def Linked (a : Addr) (L : Nat → Bool × Int) (m : Nat) (l0 : List (Bool × Int × Nat)) (w : World) (v : Value) (w' : World) : Prop :=
  ∃ l, Wrapped w' (.iface 184 (.pointer (some a))) l v ∧ Below w.heap.size w w' ∧ ∀ k, (firstOf k l).map (·.1) = orO (lastN k L m) ((firstOf k l0).map (·.1))
theorem Linked.next {a : Addr} {L : Nat → Bool × Int} {m : Nat} {l0 l : List (Bool × Int × Nat)} {w w' : World} {v : Value} {p : Nat} {kx : Bool} {nx : Int} (hL : L m = (kx, nx)) (h : ∀ k, (firstOf k l).map (·.1) = orO (lastN k L m) ((firstOf k l0).map (·.1)))
    (hw : Wrapped w' (.iface 184 (.pointer (some a))) ((kx, nx, p) :: l) v) (hb : Below w.heap.size w w') : Linked a L (m + 1) l0 w v w' := by
  refine ⟨_, hw, hb, fun k => ?_⟩
  have := h k
  simp only [firstOf, lastN, hL]
  by_cases e : kx = k
  · simp [e, orO]
  · rw [if_neg e, if_neg e]; exact this
end Go.Proofs.YtlbhbjmobcikfaaGreatDoor
/-
  DERIVED: THE SHELF's CONTRACTS AT THIS DUMP, IN PLAIN WORDS (tools/lay-plain.mjs out of 'TryzShelf.lean', which tools/lay-shelf.mjs wrote): THE SAME DECLARATIONS UNDER THE SAME NAMES: 'import', 'namespace', 'open', 'def', 'theorem' AND NOTHING ELSE: no command of the shelf's: FOR A HAND-IN. Each laying: the table of numbers ('.._ren') and one theorem, a field a fact of the dump's own or the kernel's comparison; each contract: ONE APPLICATION.
-/
namespace Go.Proofs
open Go.Shelf
def Tryz.lays137_ren : Go.Shelf.Ren := ⟨fun | 137 => 91 | 217 => 112 | 266 => 138 | n => n, fun | 9 => 9 | 5 => 5 | 3 => 3 | n => n, fun | n => n⟩
theorem Tryz.lays137 : Go.Proofs.Lays.n137 Tryz.prog Tryz.lays137_ren := {
  mixed := by kernel_rfl
  f137 := Tryz.func91.trans (congrArg some (by kernel_rfl))
  f217 := Tryz.func112.trans (congrArg some (by kernel_rfl))
  f266 := Tryz.func138.trans (congrArg some (by kernel_rfl))
  t3 := Tryz.underlying3
  a3 := Tryz.isAgg3
  z3 := Tryz.sizeOf3
  v3 := Tryz.zeroValue3
  t5 := Tryz.underlying5
  a5 := Tryz.isAgg5
  z5 := Tryz.sizeOf5
  v5 := Tryz.zeroValue5
  t9 := Tryz.underlying9
  a9 := Tryz.isAgg9
  z9 := Tryz.sizeOf9
  v9 := Tryz.zeroValue9 }
open Go.RowKit in
/-- strings.IndexByte: "IndexByte returns the index of the first instance of c in s, or -1 if c is not present in s.": IT RETURNS 'Lib.indexByte s c'; the world is as it was. (LAID: no walk: one application.) -/
theorem Tryz.strings_IndexByte (s : ByteArray) (c : Int) (w : World) :
    Calls Tryz.prog 91 #[.string s, .int .u8 c] w fun e w' => e = .returned (.int .i64 (Lib.indexByte s.data.toList c.toNat.toUInt8)) ∧ w' = w := Any.strings_IndexByte Tryz.lays137 s c w
open Go.RowKit in
def Tryz.lays103_ren : Go.Shelf.Ren := ⟨fun | 103 => 120 | 210 => 144 | 206 => 115 | n => n, fun | 9 => 9 | 4 => 4 | 24 => 153 | 3 => 3 | n => n, fun | n => n⟩
theorem Tryz.lays103 : Go.Proofs.Lays.n103 Tryz.prog Tryz.lays103_ren := {
  mixed := by kernel_rfl
  f103 := Tryz.func120.trans (congrArg some (by kernel_rfl))
  f206 := Tryz.func115.trans (congrArg some (by kernel_rfl))
  f210 := Tryz.func144.trans (congrArg some (by kernel_rfl))
  t3 := Tryz.underlying3
  a3 := Tryz.isAgg3
  z3 := Tryz.sizeOf3
  v3 := Tryz.zeroValue3
  t4 := Tryz.underlying4
  a4 := Tryz.isAgg4
  z4 := Tryz.sizeOf4
  v4 := Tryz.zeroValue4
  t9 := Tryz.underlying9
  a9 := Tryz.isAgg9
  z9 := Tryz.sizeOf9
  v9 := Tryz.zeroValue9
  t24 := Tryz.underlying153
  a24 := Tryz.isAgg153
  z24 := Tryz.sizeOf153
  v24 := Tryz.zeroValue153 }
open Go.RowKit in
/-- strings.CutPrefix: "CutPrefix returns s without the provided leading prefix string and reports whether it found the prefix. If s doesn't start with prefix, CutPrefix returns s, false. If prefix is the empty string, CutPrefix returns s, true.": IT RETURNS '(Lib.trimPrefix s p, Lib.hasPrefix s p)'; the world is as it was. (LAID: no walk: one application.) -/
theorem Tryz.strings_CutPrefix (s p : ByteArray) (w : World) :
    Calls Tryz.prog 120 #[.string s, .string p] w fun e w' => e = .returned (.tuple #[.string ⟨(Lib.trimPrefix s.data.toList p.data.toList).toArray⟩, .bool (Lib.hasPrefix s.data.toList p.data.toList)]) ∧ w' = w := Any.strings_CutPrefix Tryz.lays103 s p w
open Go.RowKit Go.Lib in
open Go.RowKit Go.Lib in
open Go.RowKit Go.Lib in
open Go.RowKit Go.Lib in
open Go.RowKit Go.Lib in
open Go.RowKit Go.Lib in
open Go.RowKit Go.Lib in
def Tryz.lays145_ren : Go.Shelf.Ren := ⟨fun | 145 => 116 | 220 => 139 | 219 => 155 | 217 => 112 | 225 => 161 | 224 => 162 | 267 => 163 | 266 => 138 | 314 => 168 | n => n, fun | 9 => 9 | 4 => 4 | 59 => 148 | 3 => 3 | 5 => 5 | 46 => 178 | 146 => 182 | 51 => 181 | n => n, fun | 1 => 22 | n => n⟩
theorem Tryz.lays145 : Go.Proofs.Lays.n145 Tryz.prog Tryz.lays145_ren := {
  mixed := by kernel_rfl
  f145 := Tryz.func116.trans (congrArg some (by kernel_rfl))
  f217 := Tryz.func112.trans (congrArg some (by kernel_rfl))
  f219 := Tryz.func155.trans (congrArg some (by kernel_rfl))
  f220 := Tryz.func139.trans (congrArg some (by kernel_rfl))
  f224 := Tryz.func162.trans (congrArg some (by kernel_rfl))
  f225 := Tryz.func161.trans (congrArg some (by kernel_rfl))
  f266 := Tryz.func138.trans (congrArg some (by kernel_rfl))
  f267 := Tryz.func163.trans (congrArg some (by kernel_rfl))
  f314 := Tryz.func168.trans (congrArg some (by kernel_rfl))
  t3 := Tryz.underlying3
  a3 := Tryz.isAgg3
  z3 := Tryz.sizeOf3
  v3 := Tryz.zeroValue3
  t4 := Tryz.underlying4
  a4 := Tryz.isAgg4
  z4 := Tryz.sizeOf4
  v4 := Tryz.zeroValue4
  t5 := Tryz.underlying5
  a5 := Tryz.isAgg5
  z5 := Tryz.sizeOf5
  v5 := Tryz.zeroValue5
  t9 := Tryz.underlying9
  a9 := Tryz.isAgg9
  z9 := Tryz.sizeOf9
  v9 := Tryz.zeroValue9
  t46 := Tryz.underlying178
  a46 := Tryz.isAgg178
  z46 := Tryz.sizeOf178
  v46 := Tryz.zeroValue178
  t51 := Tryz.underlying181
  a51 := Tryz.isAgg181
  z51 := Tryz.sizeOf181
  v51 := Tryz.zeroValue181
  t59 := Tryz.underlying148
  a59 := Tryz.isAgg148
  z59 := Tryz.sizeOf148
  v59 := Tryz.zeroValue148
  t146 := Tryz.underlying182
  a146 := Tryz.isAgg182
  z146 := Tryz.sizeOf182
  v146 := Tryz.zeroValue182
  g1 := by kernel_rfl }
open Go.RowKit Go.Lib in
/-- strings.Cut: "Cut slices s around the first instance of sep, returning the text before and after sep. The found result reports whether sep appears in s. If sep does not appear in s, cut returns s, "", false.": IT RETURNS 'Lib.cut s sep'; the world is as it was but for the count of draws. (LAID: no walk: one application.) -/
theorem Tryz.strings_Cut (s sep : ByteArray) (m : Int) (w : World) (hs : s.size < 4294967281) (hm : w.cell? ⟨22, 0, none⟩ = some (.int .i64 m)) :
    Calls Tryz.prog 116 #[.string s, .string sep] w fun e w' => e = .returned (.tuple #[.string ⟨(Lib.cut s.data.toList sep.data.toList).1.toArray⟩, .string ⟨(Lib.cut s.data.toList sep.data.toList).2.1.toArray⟩, .bool (Lib.cut s.data.toList sep.data.toList).2.2]) ∧ ∃ n, w' = w.drewN n := Any.strings_Cut Tryz.lays145 s sep m w hs hm
def Tryz.laysM219_ren : Go.Shelf.Ren := ⟨fun | 219 => 155 | 217 => 112 | 225 => 161 | 224 => 162 | 267 => 163 | 266 => 138 | 314 => 168 | n => n, fun | 9 => 9 | 3 => 3 | 4 => 4 | 5 => 5 | 46 => 178 | 146 => 182 | 51 => 181 | n => n, fun | 1 => 22 | n => n⟩
theorem Tryz.laysM219 : Go.Proofs.LaysM.n219 Tryz.prog Tryz.laysM219_ren := {
  mixed := by kernel_rfl
  f217 := Tryz.func112.trans (congrArg some (by kernel_rfl))
  f219 := Tryz.func155.trans (congrArg some (by kernel_rfl))
  f224 := Tryz.func162.trans (congrArg some (by kernel_rfl))
  f225 := Tryz.func161.trans (congrArg some (by kernel_rfl))
  f266 := Tryz.func138.trans (congrArg some (by kernel_rfl))
  f267 := Tryz.func163.trans (congrArg some (by kernel_rfl))
  f314 := Tryz.func168.trans (congrArg some (by kernel_rfl))
  t3 := Tryz.underlying3
  a3 := Tryz.isAgg3
  z3 := Tryz.sizeOf3
  v3 := Tryz.zeroValue3
  t4 := Tryz.underlying4
  a4 := Tryz.isAgg4
  z4 := Tryz.sizeOf4
  v4 := Tryz.zeroValue4
  t5 := Tryz.underlying5
  a5 := Tryz.isAgg5
  z5 := Tryz.sizeOf5
  v5 := Tryz.zeroValue5
  t9 := Tryz.underlying9
  a9 := Tryz.isAgg9
  z9 := Tryz.sizeOf9
  v9 := Tryz.zeroValue9
  t46 := Tryz.underlying178
  a46 := Tryz.isAgg178
  z46 := Tryz.sizeOf178
  v46 := Tryz.zeroValue178
  t51 := Tryz.underlying181
  a51 := Tryz.isAgg181
  z51 := Tryz.sizeOf181
  v51 := Tryz.zeroValue181
  t146 := Tryz.underlying182
  a146 := Tryz.isAgg182
  z146 := Tryz.sizeOf182
  v146 := Tryz.zeroValue182
  g1 := by kernel_rfl
  i3 := by kernel_rfl
  i4 := by kernel_rfl
  i5 := by kernel_rfl
  i9 := by kernel_rfl
  i46 := by kernel_rfl
  i51 := by kernel_rfl
  i146 := by kernel_rfl
  m1 := by kernel_rfl
  s1_3 := fun w h => Go.Proofs.cell_of_shapedOpen_int (zero := #[.int .i64 0]) (t := 3) h (of_decide_eq_true (by kernel_rfl)) (by kernel_rfl) rfl (by kernel_rfl) (by kernel_rfl) Tryz.underlying3 }
open Go.RowKit Go.Lib in
open Go.RowKit Go.Lib in
open Go.RowKit Go.Lib in
open Go.RowKit Go.Lib in
def Tryz.lays99_ren : Go.Shelf.Ren := ⟨fun | 99 => 97 | 206 => 115 | n => n, fun | 9 => 9 | 4 => 4 | 3 => 3 | n => n, fun | n => n⟩
theorem Tryz.lays99 : Go.Proofs.Lays.n99 Tryz.prog Tryz.lays99_ren := {
  mixed := by kernel_rfl
  f99 := Tryz.func97.trans (congrArg some (by kernel_rfl))
  f206 := Tryz.func115.trans (congrArg some (by kernel_rfl))
  t3 := Tryz.underlying3
  a3 := Tryz.isAgg3
  z3 := Tryz.sizeOf3
  v3 := Tryz.zeroValue3
  t4 := Tryz.underlying4
  a4 := Tryz.isAgg4
  z4 := Tryz.sizeOf4
  v4 := Tryz.zeroValue4
  t9 := Tryz.underlying9
  a9 := Tryz.isAgg9
  z9 := Tryz.sizeOf9
  v9 := Tryz.zeroValue9 }
open Go.RowKit Go.Lib in
/-- strings.HasPrefix: "HasPrefix reports whether the string s begins with prefix.": IT RETURNS 'Lib.hasPrefix s prefix'; the world is as it was. (LAID: no walk: one application.) -/
theorem Tryz.strings_HasPrefix (s p : ByteArray) (w : World) :
    Calls Tryz.prog 97 #[.string s, .string p] w fun e w' => e = .returned (.bool (Lib.hasPrefix s.data.toList p.data.toList)) ∧ w' = w := Any.strings_HasPrefix Tryz.lays99 s p w
end Go.Proofs
/- What the small calls of bracket answer: openings, the name's end, an open expression. -/
namespace Go.Proofs.YtlbhbjmobcikfaaGreatDoor
open Go.RowKit
theorem bt_list (s : ByteArray) (i : Nat) : bt s i = (s.data.toList[i]?).elim 256 UInt8.toNat := by
  by_cases h : i < s.size
  · rw [← bt_at h]
    have h' : i < s.data.toList.length := by simpa using h
    rw [List.getElem?_eq_getElem h']; simp [ByteArray.getElem_eq_getElem_data]
  · rw [bt_out (by omega), List.getElem?_eq_none (by simp; show s.data.size ≤ i; have : s.data.size = s.size := rfl; omega)]; rfl
theorem bt_ext (s : ByteArray) (i j : Nat) : bt (s.extract i s.size) j = bt s (i + j) := by
  rw [bt_list, bt_list, Lib.extract_to_end, List.getElem?_drop]
theorem u8_beq (a b : UInt8) : (a == b) = (a.toNat == b.toNat) := by
  rw [Bool.eq_iff_iff, beq_iff_eq, beq_iff_eq, UInt8.toNat_inj]
theorem two_prefix (l : List UInt8) (x y : UInt8) : [x, y].isPrefixOf l = ((l[0]?).elim 256 UInt8.toNat == x.toNat && (l[1]?).elim 256 UInt8.toNat == y.toNat) := by
  have hx := UInt8.toNat_lt x; have hy := UInt8.toNat_lt y
  match l with
  | [] => simp; omega
  | [a] => simp [List.isPrefixOf]; omega
  | a :: b :: r =>
    simp only [List.isPrefixOf, Bool.and_true, List.getElem?_cons_zero, List.getElem?_cons_succ, Option.elim_some, u8_beq]
    rw [show (x.toNat == a.toNat) = (a.toNat == x.toNat) from Bool.beq_comm, show (y.toNat == b.toNat) = (b.toNat == y.toNat) from Bool.beq_comm]
theorem hasp (s : ByteArray) (x y : UInt8) (b : Bool) (hb : (bt s 0 == x.toNat && bt s 1 == y.toNat) = b) (w : World) :
    Calls Tryz.prog 97 #[.string s, .string ⟨#[x, y]⟩] w fun e w' => e = .returned (.bool b) ∧ w = w' := by
  refine (Tryz.strings_HasPrefix s ⟨#[x, y]⟩ w).mono ?_
  rintro e w' ⟨rfl, rfl⟩
  refine ⟨?_, rfl⟩
  rw [← hb, bt_list, bt_list]
  exact ret_bool (two_prefix _ x y)
theorem opens_coll (t : ByteArray) (w : World) : Calls Tryz.prog 169 #[.string t] w fun e w' => e = .returned (.bool (Br.dotted (bt t) 0)) ∧ w = w' := by
  have h1 := fun b hb => hasp t 91 46 b hb w
  have h2 := fun b hb => hasp t 91 61 b hb w
  unfold Br.dotted
  have e1 : (91 : UInt8).toNat = 91 := rfl
  have e2 : (46 : UInt8).toNat = 46 := rfl
  have e3 : (61 : UInt8).toNat = 61 := rfl
  rw [e1, e2] at h1; rw [e1, e3] at h2
  rw [show 0 + 1 = 1 from rfl]
  generalize (bt t 0 == 91) = x at *
  generalize (bt t 1 == 46) = y at *
  generalize (bt t 1 == 61) = z at *
  have H1 := Lib.hid (h1 _ rfl); have H2 := Lib.hid (h2 _ rfl)
  clear h1 h2 e1 e2 e3
  cases x <;> cases y <;> cases z
  all_goals
    go_enter Tryz.func169, Tryz.ntmps169
    go_wp2_with fail
    refine H1.out.mono ?_; rintro e w' ⟨rfl, rfl⟩
    first
    | (go_wp2; go_ret; exact ⟨rfl, rfl⟩)
    | (go_wp2_with fail
       refine H2.out.mono ?_; rintro e w' ⟨rfl, rfl⟩
       go_wp2
       go_ret
       exact ⟨rfl, rfl⟩)
theorem opens_class (t : ByteArray) (w : World) : Calls Tryz.prog 170 #[.string t] w fun e w' => e = .returned (.bool (Br.colon (bt t) 0)) ∧ w = w' := by
  have H1 := Lib.hid (hasp t 91 58 _ rfl w)
  unfold Br.colon
  go_enter Tryz.func170, Tryz.ntmps170
  go_wp2_with fail
  refine H1.out.mono ?_; rintro e w' ⟨rfl, rfl⟩
  go_wp2
  go_ret
  exact ⟨rfl, rfl⟩
/-- The search for ':]' in the rest of a text. -/
theorem occ_clos (s : ByteArray) (k j : Nat) : Lib.occAt (s.extract k s.size).data.toList [58, 93] j = (bt s (k + j) == 58 && bt s (k + j + 1) == 93) := by
  unfold Lib.occAt
  rw [Lib.extract_to_end, List.drop_drop, two_prefix, bt_list, bt_list]
  simp only [List.getElem?_drop]
  rfl
theorem index_clos {s : ByteArray} {k e : Nat} (h : Br.clos (bt s) (s.size - (k + 1)) k = some e) : Lib.indexB (s.extract k s.size) ⟨#[58, 93]⟩ = ((e - k : Nat) : Int) := by
  obtain ⟨h1, h2, h3, h4, h5⟩ := Br.clos_some h
  refine Lib.index_first (by rw [Lib.extract_to_end]; simp; omega) ?_ ?_
  · show Lib.occAt (s.extract k s.size).data.toList [58, 93] (e - k) = true
    rw [occ_clos, show k + (e - k) = e by omega, h3, h4]; rfl
  · intro j hj
    show Lib.occAt (s.extract k s.size).data.toList [58, 93] j = false
    rw [occ_clos]
    have := h5 (k + j) (by omega) (by omega)
    simpa using this
theorem index_noclos {s : ByteArray} {k : Nat} (h : Br.clos (bt s) (s.size - (k + 1)) k = none) : Lib.indexB (s.extract k s.size) ⟨#[58, 93]⟩ = -1 := by
  refine Lib.index_none fun j hj => ?_
  show Lib.occAt (s.extract k s.size).data.toList [58, 93] j = false
  rw [occ_clos]
  cases hb : (bt s (k + j) == 58 && bt s (k + j + 1) == 93) with
  | false => rfl
  | true =>
    simp only [Bool.and_eq_true, beq_iff_eq] at hb
    have hlt := (bt_txt s).lt hb.2 (by omega)
    exfalso
    have : ∀ {n i : Nat}, Br.clos (bt s) n i = none → ∀ x, i ≤ x → x < i + n → ¬ (bt s x = 58 ∧ bt s (x + 1) = 93) := by
      intro n
      induction n with
      | zero => intro i _ x h1 h2; omega
      | succ n ih =>
        intro i hn x h1 h2
        unfold Br.clos at hn
        split at hn
        · cases hn
        · rename_i hc
          simp only [Bool.and_eq_true, beq_iff_eq] at hc
          by_cases e : x = i
          · subst e; exact hc
          · exact ih hn x (by omega) (by omega)
    exact this h (k + j) (by omega) (by omega) hb
/-- v is a new error of number c at place n: its own block lies at B or behind. -/
def ErrOne (A : Nat → Addr) (B : Nat) (w : World) (v : Value) (c : Nat) (n : Int) : Prop :=
  ∃ k p, k < 21 ∧ c = k + 1 ∧ v = .iface 65 (.pointer (some ⟨p, 0, none⟩)) ∧ B ≤ p ∧ w.cell? ⟨p, 0, none⟩ = some (.int .i64 n) ∧ w.cell? ⟨p, 1, none⟩ = some (.iface 184 (.pointer (some (A k))))
theorem ErrOne.at {A : Nat → Addr} {B : Nat} {w : World} {v : Value} {c : Nat} {n : Int} (h : ErrOne A B w v c n) : ErrAt A w v c n := by
  obtain ⟨k, p, hk, hc, rfl, hp, c0, c1⟩ := h
  exact ⟨k, [(false, n, p)], hk, hc, .fault n p c0 c1 .base, rfl⟩
theorem ErrOne.later {A : Nat → Addr} {B : Nat} {w w' : World} {v : Value} {c : Nat} {n : Int} (h : ErrOne A B w v c n) (hb : Below w.heap.size w w') : ErrOne A B w' v c n := by
  obtain ⟨k, p, hk, hc, hv, hp, c0, c1⟩ := h
  exact ⟨k, p, hk, hc, hv, hp, (hb.cell (p := ⟨p, 0, none⟩) (block_lt_of_cell c0)).trans c0, (hb.cell (p := ⟨p, 1, none⟩) (block_lt_of_cell c1)).trans c1⟩
theorem ErrOne.down {A : Nat → Addr} {B B' : Nat} {w : World} {v : Value} {c : Nat} {n : Int} (h : ErrOne A B w v c n) (hB : B' ≤ B) : ErrOne A B' w v c n := by
  obtain ⟨k, p, hk, hc, hv, hp, c0, c1⟩ := h; exact ⟨k, p, hk, hc, hv, by omega, c0, c1⟩
theorem cell_setRow_other {w : World} {g b o : Nat} (cs : Array Value) (h : b ≠ g) : (w.setRow g cs).cell? ⟨b, o, none⟩ = w.cell? ⟨b, o, none⟩ := by
  unfold World.cell?; rw [heap_setRow_other w g cs h]
theorem ErrOne.setRow {A : Nat → Addr} {B : Nat} {w : World} {v : Value} {c : Nat} {n : Int} (h : ErrOne A B w v c n) {g : Nat} (hg : g < B) (cs : Array Value) : ErrOne A B (w.setRow g cs) v c n := by
  obtain ⟨k, p, hk, hc, hv, hp, c0, c1⟩ := h
  exact ⟨k, p, hk, hc, hv, hp, (cell_setRow_other cs (by omega)).trans c0, (cell_setRow_other cs (by omega)).trans c1⟩
theorem ErrOne.iface {A : Nat → Addr} {B : Nat} {w : World} {v : Value} {c : Nat} {n : Int} (h : ErrOne A B w v c n) : ∃ q, v = .iface 65 q := by
  obtain ⟨k, p, hk, hc, hv, -⟩ := h; exact ⟨_, hv⟩
/-- A value of type error that stands for a sentinel, with its place. -/
def PlacedErr (A : Nat → Addr) (c : Nat) (p : Int) (w : World) (e : Ending) (w' : World) : Prop := ∃ v, e = .returned v ∧ ErrOne A w.heap.size w' v c p ∧ Below w.heap.size w w'
theorem at_err (A : Nat → Addr) (k : Nat) (hk : k < 21) (n : Int) (w : World) :
    Calls Tryz.prog 29 #[.int .i64 n, .iface 184 (.pointer (some (A k)))] w (PlacedErr A (k + 1) n w) := by
  refine (at_any n _ _ w).mono ?_
  rintro e w' ⟨p, rfl, hp, hb, c0, c1⟩
  exact ⟨_, rfl, ⟨k, p, hk, rfl, rfl, hp, c0, c1⟩, hb⟩
/-- What an item's reading ends with. -/
def ItEnd (A : Nat → Addr) (R : Br.Ans) (w : World) (e : Ending) (w' : World) : Prop :=
  (match R with
  | .ok P j => e = .returned (.tuple #[(.agg #[.int .u64 (Oc.U (Oc.mk P 0)), .int .u64 (Oc.U (Oc.mk P 1)), .int .u64 (Oc.U (Oc.mk P 2)), .int .u64 (Oc.U (Oc.mk P 3))]), .int .i64 j, .nilIface])
  | .err c p => ∃ v, e = .returned (.tuple #[.agg #[.int .u64 0, .int .u64 0, .int .u64 0, .int .u64 0], .int .i64 0, v]) ∧ ErrOne A w.heap.size w' v c p) ∧ Below w.heap.size w w'
theorem ItEnd.ok {A : Nat → Addr} {R : Br.Ans} {w : World} {e : Ending} {w' : World} (h : ItEnd A R w e w') {P : Nat → Bool} {j : Nat} (hR : R = .ok P j) :
    e = .returned (.tuple #[(.agg #[.int .u64 (Oc.U (Oc.mk P 0)), .int .u64 (Oc.U (Oc.mk P 1)), .int .u64 (Oc.U (Oc.mk P 2)), .int .u64 (Oc.U (Oc.mk P 3))]), .int .i64 j, .nilIface]) ∧ Below w.heap.size w w' := by subst hR; exact h
theorem ItEnd.err {A : Nat → Addr} {R : Br.Ans} {w : World} {e : Ending} {w' : World} (h : ItEnd A R w e w') {c : Nat} {p : Int} (hR : R = .err c p) :
    ∃ v, e = .returned (.tuple #[.agg #[.int .u64 0, .int .u64 0, .int .u64 0, .int .u64 0], .int .i64 0, v]) ∧ ErrOne A w.heap.size w' v c p ∧ Below w.heap.size w w' := by
  subst hR; obtain ⟨⟨v, h1, h2⟩, h3⟩ := h; exact ⟨v, h1, h2, h3⟩
/-- The cells of the answer's set that is none. -/
abbrev noSet : Array Value := #[.int .u64 0, .int .u64 0, .int .u64 0, .int .u64 0]
theorem noSet_one : noSet.all (·.oneCell') = true := setC_one
theorem cell_two {w : World} {b o : Nat} {v : Value} (h : w.cell? ⟨b, o, none⟩ = some v) (x y : Obj) : ((w.alloc x).alloc y).cell? ⟨b, o, none⟩ = some v :=
  ((((Below.refl w.heap.size w).alloc (Nat.le_refl _) x).alloc (by simp) y).cell (p := ⟨b, o, none⟩) (block_lt_of_cell h)).trans h
/-- Three results, of which the first is a struct's variable. -/
theorem results_row_two {P : Program} {fn : Func} {p q r : Tmp} {ty : TypeId} (h : fn.results = #[.cell p ty, .tmp q, .tmp r]) (tmps : Array Value) (w : World) (g : Nat) (t : TypeId) (cs : Array Value) (fr : Nat × Nat) (d : TypeDesc) (y z : Value)
    (hp : tmps.getD p undef = .pointer (some ⟨g, 0, none⟩)) (hy : tmps.getD q undef = y) (hz : tmps.getD r undef = z) (hg : w.heap[g]? = some (.cells cs t fr))
    (hu : P.underlying ty = some d) (hd : (match d with | .struct _ | .array _ _ => true | _ => false) = true) (hi : (P.info? ty).map (·.size) = some cs.size) :
    (results fn tmps).run P w = .ok (.tuple #[.agg cs, y, z]) w := by
  have hp' : tmps[p]?.getD undef = .pointer (some ⟨g, 0, none⟩) := by simpa using hp
  have hy' : tmps[q]?.getD undef = y := by simpa using hy
  have hz' : tmps[r]?.getD undef = z := by simpa using hz
  simp [results, h, hp', hy', hz', asAddr, run_loadVar_row w g t ty cs fr d hg hu hd hi]
set_option maxHeartbeats 1000000 in
theorem open_any (A : Nat → Addr) (s : ByteArray) (a : Nat) (w : World) (hE : BrEnv w A) :
    Calls Tryz.prog 165 #[.agg #[.string s, .int .i64 a]] w (ItEnd A (.err 1 a) w) := by
  have c0 := fun x y => cell_two (show w.cell? ⟨1, 0, none⟩ = some (.iface 184 (.pointer (some (A 0)))) from (hE.errs 0 (by omega)).1) x y
  go_enter Tryz.func165, Tryz.ntmps165
  go_wp2_with fail
  refine (at_err A 0 (by omega) a _).mono ?_
  rintro e w1 ⟨v, rfl, hv, hb⟩
  have hb0 : Below w.heap.size w ((w.alloc (.cells #[.string s, .int .i64 a] 172)).alloc (.cells #[.int .u64 0, .int .u64 0, .int .u64 0, .int .u64 0] 25)) := by go_grown
  have Z := Lib.hid (keep_blk hb (two_new w _ _).2)
  have HB := Lib.hid (hb0.trans (hb.mono hb0.size))
  have HV := Lib.hid hv
  clear hb hv hb0 c0
  go_wp2_with (first
    | (refine wpList_store_row rfl 25 (.tmp 2) (.tmp 5) rfl (w.heap.size + 1) noSet rfl rfl 25 _ Z.out (by kernel_rfl) rfl noSet_one ?_)
    | fail)
  exact bodyPost_ret (results_row_two rfl _ _ (w.heap.size + 1) 25 noSet (0, 0) _ _ _ rfl rfl rfl (heap_setRow Z.out) Tryz.underlying25 rfl (by kernel_rfl)) rfl ⟨⟨v, rfl, (HV.out.setRow (by simp) noSet).down (by simp; omega)⟩, below_setRow HB.out (Nat.le_succ _) _⟩
end Go.Proofs.YtlbhbjmobcikfaaGreatDoor
/- What an item of a bracket expression is read to. -/
namespace Go.Proofs.YtlbhbjmobcikfaaGreatDoor
open Go.RowKit
theorem dotted_ext (s : ByteArray) (i : Nat) : Br.dotted (bt (s.extract i s.size)) 0 = Br.dotted (bt s) i := by unfold Br.dotted; rw [bt_ext, bt_ext]; rfl
theorem colon_ext (s : ByteArray) (i : Nat) : Br.colon (bt (s.extract i s.size)) 0 = Br.colon (bt s) i := by unfold Br.colon; rw [bt_ext, bt_ext]; rfl
theorem coll_at (s : ByteArray) (i : Nat) (b : Bool) (hb : Br.dotted (bt s) i = b) (w : World) : Calls Tryz.prog 169 #[.string (s.extract i s.size)] w fun e w' => e = .returned (.bool b) ∧ w = w' := by
  have := opens_coll (s.extract i s.size) w; rw [dotted_ext, hb] at this; exact this
theorem class_at (s : ByteArray) (i : Nat) (b : Bool) (hb : Br.colon (bt s) i = b) (w : World) : Calls Tryz.prog 170 #[.string (s.extract i s.size)] w fun e w' => e = .returned (.bool b) ∧ w = w' := by
  have := opens_class (s.extract i s.size) w; rw [colon_ext, hb] at this; exact this
theorem range_p (lo hi : Nat) (h1 : lo < 256) (h2 : hi < 256) (w : World) : Calls Tryz.prog 167 #[.int .u8 lo, .int .u8 hi] w fun e w' =>
    e = .returned (.agg #[.int .u64 (Oc.U (Oc.mk (Br.rng lo hi) 0)), .int .u64 (Oc.U (Oc.mk (Br.rng lo hi) 1)), .int .u64 (Oc.U (Oc.mk (Br.rng lo hi) 2)), .int .u64 (Oc.U (Oc.mk (Br.rng lo hi) 3))]) ∧ Below w.heap.size w w' := by
  have e : ∀ q, Oc.mk (upto lo (hi + 1)) q = Oc.mk (Br.rng lo hi) q := fun q => Oc.mk_eq fun i hi' => by
    rw [Oc.mk_bit _ _ _ hi']; unfold upto Br.rng
    rw [Bool.eq_iff_iff]; simp; omega
  have := range_any lo hi h1 h2 w
  rw [e, e, e, e] at this
  exact this
theorem setP_one (P : Nat → Bool) : (#[.int .u64 (Oc.U (Oc.mk (P) 0)), .int .u64 (Oc.U (Oc.mk (P) 1)), .int .u64 (Oc.U (Oc.mk (P) 2)), .int .u64 (Oc.U (Oc.mk (P) 3))] : Array Value).all (·.oneCell') = true := setC_one
theorem drewN_below {B : Nat} {w w' : World} (h : Below B w w') (n : Nat) : Below B w (w'.drewN n) := h.trans ⟨rfl, rfl, rfl, Nat.le_refl _, fun _ _ => rfl⟩
set_option maxRecDepth 100000 in
set_option maxHeartbeats 4000000 in
theorem span_coll (A : Nat → Addr) (s : ByteArray) (hs : s.size ≤ 4294967280) (a i : Nat) (hi : i + 2 < s.size) (hd : Br.dotted (bt s) (i + 2) = true) (w : World) (hE : BrEnv w A) :
    Calls Tryz.prog 172 #[.agg #[.string s, .int .i64 a], .int .i64 i] w (ItEnd A (.err 7 ((i : Int) + 2)) w) := by
  have h1 := bt_at (show i < s.size by omega)
  have h2 := bt_at hi
  have hw : IntKind.i64.wrap ((i : Int) + 2) = (i : Int) + 2 := IntWalk.i64_in _ (by omega)
  have hi1 : (0 : Int) ≤ i := by omega
  have hi2 : (i : Int) < s.size := by omega
  have hi3 : (0 : Int) ≤ (i : Int) + 2 := by omega
  have hi4 : (i : Int) + 2 < s.size := by omega
  have hx256 : bt s i < 256 := (bt_txt s).1 i (by omega)
  have hy256 : bt s (i + 2) < 256 := (bt_txt s).1 (i + 2) hi
  have HD := Lib.hid (coll_at s (i + 2) _ hd)
  have HE := Lib.hid hE
  clear hE hd
  generalize bt s i = x at *
  generalize bt s (i + 2) = y at *
  go_enter Tryz.func172, Tryz.ntmps172
  go_wp2
  go_quiet (fail)
  generalize hW : World.drewN _ _ = W at *
  have Z : W.heap[w.heap.size + 1]? = some (.cells noSet 25) := by rw [← hW]; exact (two_new w _ _).2
  have Z0 : W.heap[w.heap.size]? = some (.cells #[.string s, .int .i64 a] 172) := by rw [← hW]; exact (two_new w _ _).1
  have hb0 : Below w.heap.size w W := by rw [← hW]; exact drewN_below (by go_grown) _
  have hsz : W.heap.size = w.heap.size + 2 := by rw [← hW]; simp
  have HE' := Lib.hid (HE.out.below hb0)
  have c6 : W.cell? ⟨7, 0, none⟩ = some (.iface 184 (.pointer (some (A 6)))) := (HE'.out.errs 6 (by omega)).1
  have ZZ := Lib.hid Z; have HB0 := Lib.hid hb0; have HSZ := Lib.hid hsz
  clear hW Z hb0 hsz
  clear Z0
  go_wp2_with fail
  refine (HD.out _).mono ?_; rintro e w' ⟨rfl, rfl⟩
  go_wp2_with fail
  refine (at_err A 6 (by omega) ((i : Int) + 2) _).mono ?_
  rintro e w1 ⟨v, rfl, hv, hb⟩
  have Z := Lib.hid (keep_blk hb ZZ.out)
  have HB := Lib.hid (HB0.out.trans (hb.mono HB0.out.size))
  have HV := Lib.hid hv
  clear hb hv
  go_wp2_with (first
    | (refine wpList_store_row rfl 25 (.tmp 4) (.tmp 28) rfl (w.heap.size + 1) noSet rfl rfl 25 _ Z.out (by kernel_rfl) rfl noSet_one ?_)
    | fail)
  exact bodyPost_ret (results_row_two rfl _ _ (w.heap.size + 1) 25 noSet (0, 0) _ _ _ rfl rfl rfl (heap_setRow Z.out) Tryz.underlying25 rfl (by kernel_rfl)) rfl ⟨⟨v, rfl, (HV.out.setRow (by rw [HSZ.out]; omega) noSet).down HB0.out.size⟩, below_setRow HB.out (Nat.le_succ _) _⟩
set_option maxRecDepth 100000 in
set_option maxHeartbeats 4000000 in
theorem span_class (A : Nat → Addr) (s : ByteArray) (hs : s.size ≤ 4294967280) (a i : Nat) (hi : i + 2 < s.size) (hd : Br.dotted (bt s) (i + 2) = false) (hc : Br.colon (bt s) (i + 2) = true) (w : World) (hE : BrEnv w A) :
    Calls Tryz.prog 172 #[.agg #[.string s, .int .i64 a], .int .i64 i] w (ItEnd A (.err 5 i) w) := by
  have h1 := bt_at (show i < s.size by omega)
  have h2 := bt_at hi
  have hw : IntKind.i64.wrap ((i : Int) + 2) = (i : Int) + 2 := IntWalk.i64_in _ (by omega)
  have hi1 : (0 : Int) ≤ i := by omega
  have hi2 : (i : Int) < s.size := by omega
  have hi3 : (0 : Int) ≤ (i : Int) + 2 := by omega
  have hi4 : (i : Int) + 2 < s.size := by omega
  have hx256 : bt s i < 256 := (bt_txt s).1 i (by omega)
  have hy256 : bt s (i + 2) < 256 := (bt_txt s).1 (i + 2) hi
  have HD := Lib.hid (coll_at s (i + 2) _ hd)
  have HC := Lib.hid (class_at s (i + 2) _ hc)
  have HE := Lib.hid hE
  clear hE hd hc
  generalize bt s i = x at *
  generalize bt s (i + 2) = y at *
  go_enter Tryz.func172, Tryz.ntmps172
  go_wp2
  go_quiet (fail)
  generalize hW : World.drewN _ _ = W at *
  have Z : W.heap[w.heap.size + 1]? = some (.cells noSet 25) := by rw [← hW]; exact (two_new w _ _).2
  have Z0 : W.heap[w.heap.size]? = some (.cells #[.string s, .int .i64 a] 172) := by rw [← hW]; exact (two_new w _ _).1
  have hb0 : Below w.heap.size w W := by rw [← hW]; exact drewN_below (by go_grown) _
  have hsz : W.heap.size = w.heap.size + 2 := by rw [← hW]; simp
  have HE' := Lib.hid (HE.out.below hb0)
  have c4 : W.cell? ⟨5, 0, none⟩ = some (.iface 184 (.pointer (some (A 4)))) := (HE'.out.errs 4 (by omega)).1
  have ZZ := Lib.hid Z; have HB0 := Lib.hid hb0; have HSZ := Lib.hid hsz
  clear hW Z hb0 hsz
  clear Z0
  go_wp2_with fail
  refine (HD.out _).mono ?_; rintro e w' ⟨rfl, rfl⟩
  go_wp2_with fail
  refine (HC.out _).mono ?_; rintro e w' ⟨rfl, rfl⟩
  go_wp2_with fail
  refine (at_err A 4 (by omega) i _).mono ?_
  rintro e w1 ⟨v, rfl, hv, hb⟩
  have Z := Lib.hid (keep_blk hb ZZ.out)
  have HB := Lib.hid (HB0.out.trans (hb.mono HB0.out.size))
  have HV := Lib.hid hv
  clear hb hv
  go_wp2_with (first
    | (refine wpList_store_row rfl 25 (.tmp 4) (.tmp 38) rfl (w.heap.size + 1) noSet rfl rfl 25 _ Z.out (by kernel_rfl) rfl noSet_one ?_)
    | fail)
  exact bodyPost_ret (results_row_two rfl _ _ (w.heap.size + 1) 25 noSet (0, 0) _ _ _ rfl rfl rfl (heap_setRow Z.out) Tryz.underlying25 rfl (by kernel_rfl)) rfl ⟨⟨v, rfl, (HV.out.setRow (by rw [HSZ.out]; omega) noSet).down HB0.out.size⟩, below_setRow HB.out (Nat.le_succ _) _⟩
set_option maxRecDepth 100000 in
set_option maxHeartbeats 4000000 in
theorem span_less (A : Nat → Addr) (s : ByteArray) (hs : s.size ≤ 4294967280) (a i : Nat) (hi : i + 2 < s.size) (hd : Br.dotted (bt s) (i + 2) = false) (hc : Br.colon (bt s) (i + 2) = false) (hlt : bt s (i + 2) < bt s i) (w : World) (hE : BrEnv w A) :
    Calls Tryz.prog 172 #[.agg #[.string s, .int .i64 a], .int .i64 i] w (ItEnd A (.err 5 i) w) := by
  have h1 := bt_at (show i < s.size by omega)
  have h2 := bt_at hi
  have hw : IntKind.i64.wrap ((i : Int) + 2) = (i : Int) + 2 := IntWalk.i64_in _ (by omega)
  have hi1 : (0 : Int) ≤ i := by omega
  have hi2 : (i : Int) < s.size := by omega
  have hi3 : (0 : Int) ≤ (i : Int) + 2 := by omega
  have hi4 : (i : Int) + 2 < s.size := by omega
  have hx256 : bt s i < 256 := (bt_txt s).1 i (by omega)
  have hy256 : bt s (i + 2) < 256 := (bt_txt s).1 (i + 2) hi
  have HD := Lib.hid (coll_at s (i + 2) _ hd)
  have HC := Lib.hid (class_at s (i + 2) _ hc)
  have HE := Lib.hid hE
  clear hE hd hc
  generalize bt s i = x at *
  generalize bt s (i + 2) = y at *
  have hl : decide (y < x) = true := by simpa using hlt
  clear hlt
  go_enter Tryz.func172, Tryz.ntmps172
  go_wp2
  go_quiet (fail)
  generalize hW : World.drewN _ _ = W at *
  have Z : W.heap[w.heap.size + 1]? = some (.cells noSet 25) := by rw [← hW]; exact (two_new w _ _).2
  have Z0 : W.heap[w.heap.size]? = some (.cells #[.string s, .int .i64 a] 172) := by rw [← hW]; exact (two_new w _ _).1
  have hb0 : Below w.heap.size w W := by rw [← hW]; exact drewN_below (by go_grown) _
  have hsz : W.heap.size = w.heap.size + 2 := by rw [← hW]; simp
  have HE' := Lib.hid (HE.out.below hb0)
  have c4 : W.cell? ⟨5, 0, none⟩ = some (.iface 184 (.pointer (some (A 4)))) := (HE'.out.errs 4 (by omega)).1
  have ZZ := Lib.hid Z; have HB0 := Lib.hid hb0; have HSZ := Lib.hid hsz
  clear hW Z hb0 hsz
  clear Z0
  go_wp2_with fail
  refine (HD.out _).mono ?_; rintro e w' ⟨rfl, rfl⟩
  go_wp2_with fail
  refine (HC.out _).mono ?_; rintro e w' ⟨rfl, rfl⟩
  go_wp2_with fail
  refine (at_err A 4 (by omega) i _).mono ?_
  rintro e w1 ⟨v, rfl, hv, hb⟩
  have Z := Lib.hid (keep_blk hb ZZ.out)
  have HB := Lib.hid (HB0.out.trans (hb.mono HB0.out.size))
  have HV := Lib.hid hv
  clear hb hv
  go_wp2_with (first
    | (refine wpList_store_row rfl 25 (.tmp 4) (.tmp 38) rfl (w.heap.size + 1) noSet rfl rfl 25 _ Z.out (by kernel_rfl) rfl noSet_one ?_)
    | fail)
  exact bodyPost_ret (results_row_two rfl _ _ (w.heap.size + 1) 25 noSet (0, 0) _ _ _ rfl rfl rfl (heap_setRow Z.out) Tryz.underlying25 rfl (by kernel_rfl)) rfl ⟨⟨v, rfl, (HV.out.setRow (by rw [HSZ.out]; omega) noSet).down HB0.out.size⟩, below_setRow HB.out (Nat.le_succ _) _⟩
set_option maxRecDepth 100000 in
set_option maxHeartbeats 4000000 in
theorem span_ok (A : Nat → Addr) (s : ByteArray) (hs : s.size ≤ 4294967280) (a i : Nat) (hi : i + 2 < s.size) (hd : Br.dotted (bt s) (i + 2) = false) (hc : Br.colon (bt s) (i + 2) = false) (hlt : ¬ bt s (i + 2) < bt s i) (w : World) (hE : BrEnv w A) :
    Calls Tryz.prog 172 #[.agg #[.string s, .int .i64 a], .int .i64 i] w (ItEnd A (.ok (Br.rng (bt s i) (bt s (i + 2))) (i + 3)) w) := by
  have h1 := bt_at (show i < s.size by omega)
  have h2 := bt_at hi
  have hw : IntKind.i64.wrap ((i : Int) + 2) = (i : Int) + 2 := IntWalk.i64_in _ (by omega)
  have hi1 : (0 : Int) ≤ i := by omega
  have hi2 : (i : Int) < s.size := by omega
  have hi3 : (0 : Int) ≤ (i : Int) + 2 := by omega
  have hi4 : (i : Int) + 2 < s.size := by omega
  have hx256 : bt s i < 256 := (bt_txt s).1 i (by omega)
  have hy256 : bt s (i + 2) < 256 := (bt_txt s).1 (i + 2) hi
  have HD := Lib.hid (coll_at s (i + 2) _ hd)
  have HC := Lib.hid (class_at s (i + 2) _ hc)
  have HE := Lib.hid hE
  clear hE hd hc
  generalize bt s i = x at *
  generalize bt s (i + 2) = y at *
  have hl : decide (y < x) = false := by simpa using hlt
  have hw3 : IntKind.i64.wrap ((i : Int) + 2 + 1) = (i : Int) + 3 := by rw [IntWalk.i64_in _ (by omega)]; omega
  clear hlt
  go_enter Tryz.func172, Tryz.ntmps172
  go_wp2
  go_quiet (fail)
  generalize hW : World.drewN _ _ = W at *
  have Z : W.heap[w.heap.size + 1]? = some (.cells noSet 25) := by rw [← hW]; exact (two_new w _ _).2
  have Z0 : W.heap[w.heap.size]? = some (.cells #[.string s, .int .i64 a] 172) := by rw [← hW]; exact (two_new w _ _).1
  have hb0 : Below w.heap.size w W := by rw [← hW]; exact drewN_below (by go_grown) _
  have hsz : W.heap.size = w.heap.size + 2 := by rw [← hW]; simp
  have HE' := Lib.hid (HE.out.below hb0)
  have ZZ := Lib.hid Z; have HB0 := Lib.hid hb0; have HSZ := Lib.hid hsz
  clear hW Z hb0 hsz
  clear Z0
  go_wp2_with fail
  refine (HD.out _).mono ?_; rintro e w' ⟨rfl, rfl⟩
  go_wp2_with fail
  refine (HC.out _).mono ?_; rintro e w' ⟨rfl, rfl⟩
  go_wp2_with fail
  refine (range_p x y hx256 hy256 _).mono ?_
  rintro e w1 ⟨rfl, hb⟩
  have Z := Lib.hid (keep_blk hb ZZ.out)
  have HB := Lib.hid (HB0.out.trans (hb.mono HB0.out.size))
  clear hb
  go_wp2_with (first
    | (refine wpList_store_row rfl 25 (.tmp 4) (.tmp 44) rfl (w.heap.size + 1) #[.int .u64 (Oc.U (Oc.mk (Br.rng x y) 0)), .int .u64 (Oc.U (Oc.mk (Br.rng x y) 1)), .int .u64 (Oc.U (Oc.mk (Br.rng x y) 2)), .int .u64 (Oc.U (Oc.mk (Br.rng x y) 3))] rfl rfl 25 _ Z.out (by kernel_rfl) rfl (setP_one _) ?_)
    | fail)
  exact bodyPost_ret (results_row_two rfl _ _ (w.heap.size + 1) 25 #[.int .u64 (Oc.U (Oc.mk (Br.rng x y) 0)), .int .u64 (Oc.U (Oc.mk (Br.rng x y) 1)), .int .u64 (Oc.U (Oc.mk (Br.rng x y) 2)), .int .u64 (Oc.U (Oc.mk (Br.rng x y) 3))] (0, 0) _ _ _ rfl rfl rfl (heap_setRow Z.out) Tryz.underlying25 rfl (by kernel_rfl)) rfl ⟨by first | rfl | (push_cast; rfl), below_setRow HB.out (Nat.le_succ _) _⟩
theorem span_any (A : Nat → Addr) (s : ByteArray) (hs : s.size ≤ 4294967280) (a i : Nat) (hi : i + 2 < s.size) (w : World) (hE : BrEnv w A) :
    Calls Tryz.prog 172 #[.agg #[.string s, .int .i64 a], .int .i64 i] w (ItEnd A (Br.ranged (bt s) i) w) := by
  unfold Br.ranged
  cases hd : Br.dotted (bt s) (i + 2) with
  | true => exact span_coll A s hs a i hi hd w hE
  | false =>
    cases hc : Br.colon (bt s) (i + 2) with
    | true => exact span_class A s hs a i hi hd hc w hE
    | false =>
      by_cases hlt : bt s (i + 2) < bt s i
      · have h := span_less A s hs a i hi hd hc hlt w hE
        simpa [hlt] using h
      · have h := span_ok A s hs a i hi hd hc hlt w hE
        simpa [hlt] using h
end Go.Proofs.YtlbhbjmobcikfaaGreatDoor
/- What an item of a bracket expression is read to: a class's name, and any item. -/
namespace Go.Proofs.YtlbhbjmobcikfaaGreatDoor
open Go.RowKit
theorem ext_ext (s : ByteArray) (k m : Nat) (h : k + m ≤ s.size) : (s.extract k s.size).extract 0 m = s.extract k (k + m) := by
  have e : ((s.extract k s.size).extract 0 m).data.toList = (s.extract k (k + m)).data.toList := by
    simp only [ByteArray.data_extract, Array.toList_extract, List.extract_eq_take_drop, List.drop_zero]
    have : s.size = s.data.toList.length := by simp
    rw [List.take_take]; congr 1; omega
  cases h1 : (s.extract k s.size).extract 0 m with
  | mk x => cases h2 : s.extract k (k + m) with
    | mk y => rw [h1, h2] at e; simp only at e; rw [Array.toList_inj.1 e]
theorem cut_none {A : Nat → Addr} (s : ByteArray) (hs : s.size ≤ 4294967280) (k : Nat) (hc : Br.clos (bt s) (s.size - (k + 1)) k = none) (w : World) (hE : BrEnv w A) :
    Calls Tryz.prog 116 #[.string (s.extract k s.size), .string ⟨#[58, 93]⟩] w fun e w' => e = .returned (.tuple #[.string (s.extract k s.size), .string ByteArray.empty, .bool false]) ∧ ∃ n, w' = w.drewN n := by
  obtain ⟨m, hm⟩ := hE.idx
  have hz : (s.extract k s.size).size < 4294967281 := by simp; omega
  have h := Tryz.strings_Cut (s.extract k s.size) ⟨#[58, 93]⟩ m w hz hm
  obtain ⟨e1, e2, e3⟩ := Lib.cutB_miss _ _ (index_noclos hc)
  rw [e1, e2, e3] at h; exact h
theorem cut_some {A : Nat → Addr} (s : ByteArray) (hs : s.size ≤ 4294967280) (k m : Nat) (hc : Br.clos (bt s) (s.size - (k + 1)) k = some (k + m)) (w : World) (hE : BrEnv w A) :
    Calls Tryz.prog 116 #[.string (s.extract k s.size), .string ⟨#[58, 93]⟩] w fun e w' => ∃ r, e = .returned (.tuple #[.string (s.extract k (k + m)), .string r, .bool true]) ∧ ∃ n, w' = w.drewN n := by
  obtain ⟨mx, hm⟩ := hE.idx
  have hz : (s.extract k s.size).size < 4294967281 := by simp; omega
  have h := Tryz.strings_Cut (s.extract k s.size) ⟨#[58, 93]⟩ mx w hz hm
  obtain ⟨g1, g2, g3, g4, -⟩ := Br.clos_some hc
  have hlt := (bt_txt s).lt g4 (by omega)
  have hix := index_clos hc
  rw [show k + m - k = m by omega] at hix
  obtain ⟨e1, e2, e3⟩ := Lib.cutB_hit _ _ m hix
  rw [e1, e2, e3, ext_ext s k m (by omega)] at h
  exact h.mono fun e w' hh => ⟨_, hh⟩
theorem of_p (x : Nat) (hx : x < 256) (v : Int) (hv : v = (x : Int)) (w : World) (g : Nat) (hg : w.heap.size = g) (t : TypeId) :
    Calls Tryz.prog 118 #[.slice (some ⟨g, 0, none⟩) 1 1] (w.alloc (.cells #[.int .u8 v] t))
      fun e w' => e = .returned (.agg #[.int .u64 (Oc.U (Oc.mk (fun b => b == x) 0)), .int .u64 (Oc.U (Oc.mk (fun b => b == x) 1)), .int .u64 (Oc.U (Oc.mk (fun b => b == x) 2)), .int .u64 (Oc.U (Oc.mk (fun b => b == x) 3))]) ∧ Below (w.alloc (.cells #[.int .u8 v] t)).heap.size (w.alloc (.cells #[.int .u8 v] t)) w' := by
  have hb : Oc.anyB (oneOf x) 1 = fun b => b == x := by funext b; simp [Oc.anyB, oneOf]
  exact (of_one x hx v hv w g hg t _ _ _ _ (by rw [hb]) (by rw [hb]) (by rw [hb]) (by rw [hb])).mono fun e w' h => ⟨h.1, by simpa using h.2⟩
set_option maxRecDepth 100000 in
set_option maxHeartbeats 4000000 in
theorem brnamed_open (A : Nat → Addr) (s : ByteArray) (_hs : s.size ≤ 4294967280) (a i : Nat) (hi : i + 2 ≤ s.size) (hc : Br.clos (bt s) (s.size - (i + 3)) (i + 2) = none) (w : World) (hE : BrEnv w A) :
    Calls Tryz.prog 171 #[.agg #[.string s, .int .i64 a], .int .i64 i] w (ItEnd A (.err 1 a) w) := by
  have hw : IntKind.i64.wrap ((i : Int) + 2) = (i : Int) + 2 := IntWalk.i64_in _ (by omega)
  have hi3 : (0 : Int) ≤ (i : Int) + 2 := by omega
  have hi4 : (i : Int) + 2 ≤ s.size := by omega
  have HCUT := Lib.hid (fun w hE => cut_none (A := A) s _hs (i + 2) hc w hE)
  have HE := Lib.hid hE
  clear hE hc
  go_enter Tryz.func171, Tryz.ntmps171
  go_wp2_with fail
  refine (HCUT.out _ (HE.out.below (by go_grown))).mono ?_
  rintro e w' ⟨rfl, n, rfl⟩
  generalize hW : World.drewN _ _ = W at *
  have Z : W.heap[w.heap.size + 1]? = some (.cells noSet 25) := by rw [← hW]; exact (two_new w _ _).2
  have Z0 : W.heap[w.heap.size]? = some (.cells #[.string s, .int .i64 a] 172) := by rw [← hW]; exact (two_new w _ _).1
  have hb0 : Below w.heap.size w W := by rw [← hW]; exact drewN_below (by go_grown) _
  have hsz : W.heap.size = w.heap.size + 2 := by rw [← hW]; simp
  have HE' := Lib.hid (HE.out.below hb0)
  have ZZ := Lib.hid Z; have HB0 := Lib.hid hb0; have HSZ := Lib.hid hsz
  clear hW Z hb0 hsz
  have ZR := Lib.hid Z0
  clear Z0
  go_wp2_with (first
    | (refine wpList_load_row rfl 172 (.tmp 2) rfl w.heap.size rfl 172 _ (0, 0) _ ZR.out Tryz.underlying172 rfl (by kernel_rfl) ?_)
    | fail)
  refine (open_any A s a _ HE'.out).mono ?_
  intro e w1 he
  obtain ⟨v, rfl, hv, hb⟩ := he.err rfl
  obtain ⟨q, rfl⟩ := hv.iface
  have Z := Lib.hid (keep_blk hb ZZ.out)
  have HB := Lib.hid (HB0.out.trans (hb.mono HB0.out.size))
  have HV := Lib.hid hv
  clear hb hv he
  go_wp2_with (first
    | (refine wpList_store_row rfl 25 (.tmp 4) (.tmp 26) rfl (w.heap.size + 1) noSet rfl rfl 25 _ Z.out (by kernel_rfl) rfl noSet_one ?_)
    | fail)
  exact bodyPost_ret (results_row_two rfl _ _ (w.heap.size + 1) 25 noSet (0, 0) _ _ _ rfl rfl rfl (heap_setRow Z.out) Tryz.underlying25 rfl (by kernel_rfl)) rfl ⟨⟨_, rfl, (HV.out.setRow (by rw [HSZ.out]; omega) noSet).down HB0.out.size⟩, below_setRow HB.out (Nat.le_succ _) _⟩
set_option maxRecDepth 100000 in
set_option maxHeartbeats 4000000 in
theorem brnamed_no (A : Nat → Addr) (s : ByteArray) (_hs : s.size ≤ 4294967280) (a i : Nat) (m : Nat) (hm : i + m + 4 ≤ s.size) (hc : Br.clos (bt s) (s.size - (i + 3)) (i + 2) = some (i + 2 + m)) (hn : Cl.No (s.extract (i + 2) (i + 2 + m))) (w : World) (hE : BrEnv w A) :
    Calls Tryz.prog 171 #[.agg #[.string s, .int .i64 a], .int .i64 i] w (ItEnd A (.err 6 i) w) := by
  have hi : i + 2 ≤ s.size := by omega
  have hl : (s.extract (i + 2) (i + 2 + m)).size = m := by simp; omega
  have hw : IntKind.i64.wrap ((i : Int) + 2) = (i : Int) + 2 := IntWalk.i64_in _ (by omega)
  have hi3 : (0 : Int) ≤ (i : Int) + 2 := by omega
  have hi4 : (i : Int) + 2 ≤ s.size := by omega
  have HCUT := Lib.hid (fun w hE => cut_some (A := A) s _hs (i + 2) m hc w hE)
  have HE := Lib.hid hE
  have HN := Lib.hid (named_no _ hn)
  clear hE hc hn
  generalize s.extract (i + 2) (i + 2 + m) = t at *
  go_enter Tryz.func171, Tryz.ntmps171
  go_wp2_with fail
  refine (HCUT.out _ (HE.out.below (by go_grown))).mono ?_
  rintro e w' ⟨r, rfl, n, rfl⟩
  generalize hW : World.drewN _ _ = W at *
  have Z : W.heap[w.heap.size + 1]? = some (.cells noSet 25) := by rw [← hW]; exact (two_new w _ _).2
  have Z0 : W.heap[w.heap.size]? = some (.cells #[.string s, .int .i64 a] 172) := by rw [← hW]; exact (two_new w _ _).1
  have hb0 : Below w.heap.size w W := by rw [← hW]; exact drewN_below (by go_grown) _
  have hsz : W.heap.size = w.heap.size + 2 := by rw [← hW]; simp
  have HE' := Lib.hid (HE.out.below hb0)
  have c5 : W.cell? ⟨6, 0, none⟩ = some (.iface 184 (.pointer (some (A 5)))) := (HE'.out.errs 5 (by omega)).1
  have C5 := Lib.hid c5
  clear c5
  have ZZ := Lib.hid Z; have HB0 := Lib.hid hb0; have HSZ := Lib.hid hsz
  clear hW Z hb0 hsz
  have ZR := Lib.hid Z0
  clear Z0
  go_wp2_with fail
  refine (HN.out _ _ C5.out).mono ?_
  rintro e w1 ⟨rfl, hb⟩
  have hbA : Below W.heap.size W (w1.alloc (.cells noSet 25)) := hb.alloc hb.size _
  have Z := Lib.hid (keep_blk hbA ZZ.out)
  have HB := Lib.hid (HB0.out.trans (hbA.mono HB0.out.size))
  have HBA := Lib.hid hbA
  clear hb hbA
  go_wp2_with fail
  generalize World.alloc w1 _ = W2 at *
  refine (at_err A 5 (by omega) i _).mono ?_
  rintro e w3 ⟨v, rfl, hv, hb⟩
  have Y := Lib.hid (keep_blk hb Z.out)
  have HB3 := Lib.hid (HB.out.trans (hb.mono HB.out.size))
  have HV := Lib.hid (hv.down HBA.out.size)
  clear hb hv
  go_wp2_with (first
    | (refine wpList_store_row rfl 25 (.tmp 4) (.tmp 36) rfl (w.heap.size + 1) noSet rfl rfl 25 _ Y.out (by kernel_rfl) rfl noSet_one ?_)
    | fail)
  exact bodyPost_ret (results_row_two rfl _ _ (w.heap.size + 1) 25 noSet (0, 0) _ _ _ rfl rfl rfl (heap_setRow Y.out) Tryz.underlying25 rfl (by kernel_rfl)) rfl ⟨⟨v, rfl, (HV.out.setRow (by rw [HSZ.out]; omega) noSet).down HB0.out.size⟩, below_setRow HB3.out (Nat.le_succ _) _⟩
set_option maxRecDepth 100000 in
set_option maxHeartbeats 4000000 in
theorem brnamed_yes (A : Nat → Addr) (s : ByteArray) (_hs : s.size ≤ 4294967280) (a i : Nat) (m k : Nat) (hm : i + m + 4 ≤ s.size) (hc : Br.clos (bt s) (s.size - (i + 3)) (i + 2) = some (i + 2 + m)) (hk : Known (s.extract (i + 2) (i + 2 + m)) k) (w : World) (hE : BrEnv w A) :
    Calls Tryz.prog 171 #[.agg #[.string s, .int .i64 a], .int .i64 i] w (ItEnd A (.ok (Cl.cls k) (i + 2 + m + 2)) w) := by
  have hi : i + 2 ≤ s.size := by omega
  have hl : (s.extract (i + 2) (i + 2 + m)).size = m := by simp; omega
  have hw : IntKind.i64.wrap ((i : Int) + 2) = (i : Int) + 2 := IntWalk.i64_in _ (by omega)
  have hi3 : (0 : Int) ≤ (i : Int) + 2 := by omega
  have hi4 : (i : Int) + 2 ≤ s.size := by omega
  have HCUT := Lib.hid (fun w hE => cut_some (A := A) s _hs (i + 2) m hc w hE)
  have HE := Lib.hid hE
  have HK := Lib.hid hk.1
  have hw2 : IntKind.i64.wrap ((i : Int) + 2 + m) = (i : Int) + 2 + m := IntWalk.i64_in _ (by omega)
  have hw3 : IntKind.i64.wrap ((i : Int) + 2 + m + 2) = (i : Int) + 2 + m + 2 := IntWalk.i64_in _ (by omega)
  clear hE hc hk
  generalize s.extract (i + 2) (i + 2 + m) = t at *
  go_enter Tryz.func171, Tryz.ntmps171
  go_wp2_with fail
  refine (HCUT.out _ (HE.out.below (by go_grown))).mono ?_
  rintro e w' ⟨r, rfl, n, rfl⟩
  generalize hW : World.drewN _ _ = W at *
  have Z : W.heap[w.heap.size + 1]? = some (.cells noSet 25) := by rw [← hW]; exact (two_new w _ _).2
  have Z0 : W.heap[w.heap.size]? = some (.cells #[.string s, .int .i64 a] 172) := by rw [← hW]; exact (two_new w _ _).1
  have hb0 : Below w.heap.size w W := by rw [← hW]; exact drewN_below (by go_grown) _
  have hsz : W.heap.size = w.heap.size + 2 := by rw [← hW]; simp
  have HE' := Lib.hid (HE.out.below hb0)
  have ZZ := Lib.hid Z; have HB0 := Lib.hid hb0; have HSZ := Lib.hid hsz
  clear hW Z hb0 hsz
  have ZR := Lib.hid Z0
  clear Z0
  go_wp2_with fail
  refine (HK.out _).mono ?_
  rintro e w1 ⟨rfl, hb⟩
  have hbA : Below W.heap.size W (w1.alloc (.cells #[.int .u64 (Oc.U (Cl.cw k 0)), .int .u64 (Oc.U (Cl.cw k 1)), .int .u64 (Oc.U (Cl.cw k 2)), .int .u64 (Oc.U (Cl.cw k 3))] 25)) := hb.alloc hb.size _
  have Z := Lib.hid (keep_blk hbA ZZ.out)
  have ZK := Lib.hid (heap_alloc_new w1 (.cells #[.int .u64 (Oc.U (Cl.cw k 0)), .int .u64 (Oc.U (Cl.cw k 1)), .int .u64 (Oc.U (Cl.cw k 2)), .int .u64 (Oc.U (Cl.cw k 3))] 25))
  have HB := Lib.hid (HB0.out.trans (hbA.mono HB0.out.size))
  clear hb hbA
  go_wp2_with (first
    | (refine wpList_load_row rfl 25 (.tmp 10) rfl w1.heap.size rfl 25 _ (0, 0) _ ZK.out Tryz.underlying25 rfl (by kernel_rfl) ?_)
    | (refine wpList_store_row rfl 25 (.tmp 4) (.tmp 40) rfl (w.heap.size + 1) #[.int .u64 (Oc.U (Cl.cw k 0)), .int .u64 (Oc.U (Cl.cw k 1)), .int .u64 (Oc.U (Cl.cw k 2)), .int .u64 (Oc.U (Cl.cw k 3))] rfl rfl 25 _ Z.out (by kernel_rfl) rfl setC_one ?_)
    | fail)
  exact bodyPost_ret (results_row_two rfl _ _ (w.heap.size + 1) 25 #[.int .u64 (Oc.U (Cl.cw k 0)), .int .u64 (Oc.U (Cl.cw k 1)), .int .u64 (Oc.U (Cl.cw k 2)), .int .u64 (Oc.U (Cl.cw k 3))] (0, 0) _ _ _ rfl rfl rfl (heap_setRow Z.out) Tryz.underlying25 rfl (by kernel_rfl)) rfl ⟨by exact rfl, below_setRow HB.out (Nat.le_succ _) _⟩
set_option maxRecDepth 100000 in
set_option maxHeartbeats 4000000 in
theorem britem_coll (A : Nat → Addr) (s : ByteArray) (_hs : s.size ≤ 4294967280) (a i : Nat) (hi : i < s.size) (hd : Br.dotted (bt s) i = true) (w : World) (hE : BrEnv w A) :
    Calls Tryz.prog 164 #[.agg #[.string s, .int .i64 a], .int .i64 i] w (ItEnd A (.err 7 i) w) := by
  have hi1 : (0 : Int) ≤ i := by omega
  have hi2 : (i : Int) ≤ s.size := by omega
  have HD := Lib.hid (coll_at s i _ hd)
  have HE := Lib.hid hE
  clear hE hd
  clear hi _hs
  have hz0 : i ≤ s.size := by omega
  go_enter Tryz.func164, Tryz.ntmps164
  go_wp2_with fail
  refine (HD.out _).mono ?_; rintro e w' ⟨rfl, rfl⟩
  generalize hW : World.alloc (World.alloc _ _) _ = W at *
  have Z : W.heap[w.heap.size + 1]? = some (.cells noSet 25) := by rw [← hW]; exact (two_new w _ _).2
  have Z0 : W.heap[w.heap.size]? = some (.cells #[.string s, .int .i64 a] 172) := by rw [← hW]; exact (two_new w _ _).1
  have hb0 : Below w.heap.size w W := by rw [← hW]; go_grown
  have hsz : W.heap.size = w.heap.size + 2 := by rw [← hW]; simp
  have HE' := Lib.hid (HE.out.below hb0)
  have c6 : W.cell? ⟨7, 0, none⟩ = some (.iface 184 (.pointer (some (A 6)))) := (HE'.out.errs 6 (by omega)).1
  have ZZ := Lib.hid Z; have HB0 := Lib.hid hb0; have HSZ := Lib.hid hsz
  clear hW Z hb0 hsz
  have ZR := Lib.hid Z0
  clear Z0
  go_wp2_with fail
  refine (at_err A 6 (by omega) i _).mono ?_
  rintro e w1 ⟨v, rfl, hv, hb⟩
  have Z := Lib.hid (keep_blk hb ZZ.out)
  have HB := Lib.hid (HB0.out.trans (hb.mono HB0.out.size))
  have HV := Lib.hid hv
  clear hb hv
  go_wp2_with (first
    | (refine wpList_store_row rfl 25 (.tmp 4) (.tmp 15) rfl (w.heap.size + 1) noSet rfl rfl 25 _ Z.out (by kernel_rfl) rfl noSet_one ?_)
    | fail)
  exact bodyPost_ret (results_row_two rfl _ _ (w.heap.size + 1) 25 noSet (0, 0) _ _ _ rfl rfl rfl (heap_setRow Z.out) Tryz.underlying25 rfl (by kernel_rfl)) rfl ⟨⟨v, rfl, (HV.out.setRow (by rw [HSZ.out]; omega) noSet).down HB0.out.size⟩, below_setRow HB.out (Nat.le_succ _) _⟩
set_option maxRecDepth 100000 in
set_option maxHeartbeats 4000000 in
theorem britem_class_ok (A : Nat → Addr) (s : ByteArray) (_hs : s.size ≤ 4294967280) (a i : Nat) (hi : i < s.size) (hd : Br.dotted (bt s) i = false) (hc : Br.colon (bt s) i = true) (P : Nat → Bool) (j : Nat) (HI : ∀ w, BrEnv w A → Calls Tryz.prog 171 #[.agg #[.string s, .int .i64 a], .int .i64 i] w (ItEnd A (.ok P j) w)) (w : World) (hE : BrEnv w A) :
    Calls Tryz.prog 164 #[.agg #[.string s, .int .i64 a], .int .i64 i] w (ItEnd A (.ok P j) w) := by
  have hi1 : (0 : Int) ≤ i := by omega
  have hi2 : (i : Int) ≤ s.size := by omega
  have HD := Lib.hid (coll_at s i _ hd)
  have HC := Lib.hid (class_at s i _ hc)
  have HE := Lib.hid hE
  have HX := Lib.hid HI
  clear HI
  clear hE hd hc
  have hz0 : i ≤ s.size := by omega
  go_enter Tryz.func164, Tryz.ntmps164
  go_wp2_with fail
  refine (HD.out _).mono ?_; rintro e w' ⟨rfl, rfl⟩
  generalize hW : World.alloc (World.alloc _ _) _ = W at *
  have Z : W.heap[w.heap.size + 1]? = some (.cells noSet 25) := by rw [← hW]; exact (two_new w _ _).2
  have Z0 : W.heap[w.heap.size]? = some (.cells #[.string s, .int .i64 a] 172) := by rw [← hW]; exact (two_new w _ _).1
  have hb0 : Below w.heap.size w W := by rw [← hW]; go_grown
  have hsz : W.heap.size = w.heap.size + 2 := by rw [← hW]; simp
  have HE' := Lib.hid (HE.out.below hb0)
  have ZZ := Lib.hid Z; have HB0 := Lib.hid hb0; have HSZ := Lib.hid hsz
  clear hW Z hb0 hsz
  have ZR := Lib.hid Z0
  clear Z0
  go_wp2_with fail
  refine (HC.out _).mono ?_; rintro e w' ⟨rfl, rfl⟩
  go_wp2_with (first
    | (refine wpList_load_row rfl 172 (.tmp 2) rfl w.heap.size rfl 172 _ (0, 0) _ ZR.out Tryz.underlying172 rfl (by kernel_rfl) ?_)
    | fail)
  refine (HX.out _ HE'.out).mono ?_
  intro e w1 he
  obtain ⟨rfl, hb⟩ := he.ok rfl
  have Z := Lib.hid (keep_blk hb ZZ.out)
  have HB := Lib.hid (HB0.out.trans (hb.mono HB0.out.size))
  clear hb he
  go_wp2_with (first
    | (refine wpList_store_row rfl 25 (.tmp 4) (.tmp 25) rfl (w.heap.size + 1) #[.int .u64 (Oc.U (Oc.mk (P) 0)), .int .u64 (Oc.U (Oc.mk (P) 1)), .int .u64 (Oc.U (Oc.mk (P) 2)), .int .u64 (Oc.U (Oc.mk (P) 3))] rfl rfl 25 _ Z.out (by kernel_rfl) rfl (setP_one _) ?_)
    | fail)
  exact bodyPost_ret (results_row_two rfl _ _ (w.heap.size + 1) 25 #[.int .u64 (Oc.U (Oc.mk (P) 0)), .int .u64 (Oc.U (Oc.mk (P) 1)), .int .u64 (Oc.U (Oc.mk (P) 2)), .int .u64 (Oc.U (Oc.mk (P) 3))] (0, 0) _ _ _ rfl rfl rfl (heap_setRow Z.out) Tryz.underlying25 rfl (by kernel_rfl)) rfl ⟨by exact rfl, below_setRow HB.out (Nat.le_succ _) _⟩
set_option maxRecDepth 100000 in
set_option maxHeartbeats 4000000 in
theorem britem_class_err (A : Nat → Addr) (s : ByteArray) (_hs : s.size ≤ 4294967280) (a i : Nat) (hi : i < s.size) (hd : Br.dotted (bt s) i = false) (hc : Br.colon (bt s) i = true) (c : Nat) (q : Int) (HI : ∀ w, BrEnv w A → Calls Tryz.prog 171 #[.agg #[.string s, .int .i64 a], .int .i64 i] w (ItEnd A (.err c q) w)) (w : World) (hE : BrEnv w A) :
    Calls Tryz.prog 164 #[.agg #[.string s, .int .i64 a], .int .i64 i] w (ItEnd A (.err c q) w) := by
  have hi1 : (0 : Int) ≤ i := by omega
  have hi2 : (i : Int) ≤ s.size := by omega
  have HD := Lib.hid (coll_at s i _ hd)
  have HC := Lib.hid (class_at s i _ hc)
  have HE := Lib.hid hE
  have HX := Lib.hid HI
  clear HI
  clear hE hd hc
  have hz0 : i ≤ s.size := by omega
  go_enter Tryz.func164, Tryz.ntmps164
  go_wp2_with fail
  refine (HD.out _).mono ?_; rintro e w' ⟨rfl, rfl⟩
  generalize hW : World.alloc (World.alloc _ _) _ = W at *
  have Z : W.heap[w.heap.size + 1]? = some (.cells noSet 25) := by rw [← hW]; exact (two_new w _ _).2
  have Z0 : W.heap[w.heap.size]? = some (.cells #[.string s, .int .i64 a] 172) := by rw [← hW]; exact (two_new w _ _).1
  have hb0 : Below w.heap.size w W := by rw [← hW]; go_grown
  have hsz : W.heap.size = w.heap.size + 2 := by rw [← hW]; simp
  have HE' := Lib.hid (HE.out.below hb0)
  have ZZ := Lib.hid Z; have HB0 := Lib.hid hb0; have HSZ := Lib.hid hsz
  clear hW Z hb0 hsz
  have ZR := Lib.hid Z0
  clear Z0
  go_wp2_with fail
  refine (HC.out _).mono ?_; rintro e w' ⟨rfl, rfl⟩
  go_wp2_with (first
    | (refine wpList_load_row rfl 172 (.tmp 2) rfl w.heap.size rfl 172 _ (0, 0) _ ZR.out Tryz.underlying172 rfl (by kernel_rfl) ?_)
    | fail)
  refine (HX.out _ HE'.out).mono ?_
  intro e w1 he
  obtain ⟨v, rfl, hv, hb⟩ := he.err rfl
  obtain ⟨q', rfl⟩ := hv.iface
  have Z := Lib.hid (keep_blk hb ZZ.out)
  have HB := Lib.hid (HB0.out.trans (hb.mono HB0.out.size))
  have HV := Lib.hid hv
  clear hb hv he
  go_wp2_with (first
    | (refine wpList_store_row rfl 25 (.tmp 4) (.tmp 25) rfl (w.heap.size + 1) noSet rfl rfl 25 _ Z.out (by kernel_rfl) rfl noSet_one ?_)
    | fail)
  exact bodyPost_ret (results_row_two rfl _ _ (w.heap.size + 1) 25 noSet (0, 0) _ _ _ rfl rfl rfl (heap_setRow Z.out) Tryz.underlying25 rfl (by kernel_rfl)) rfl ⟨⟨_, rfl, (HV.out.setRow (by rw [HSZ.out]; omega) noSet).down HB0.out.size⟩, below_setRow HB.out (Nat.le_succ _) _⟩
set_option maxRecDepth 100000 in
set_option maxHeartbeats 4000000 in
theorem britem_range_ok (A : Nat → Addr) (s : ByteArray) (_hs : s.size ≤ 4294967280) (a i : Nat) (hi : i < s.size) (hd : Br.dotted (bt s) i = false) (hc : Br.colon (bt s) i = false) (h2 : i + 2 < s.size) (h45 : bt s (i + 1) = 45) (h93 : bt s (i + 2) ≠ 93) (P : Nat → Bool) (j : Nat) (HI : ∀ w, BrEnv w A → Calls Tryz.prog 172 #[.agg #[.string s, .int .i64 a], .int .i64 i] w (ItEnd A (.ok P j) w)) (w : World) (hE : BrEnv w A) :
    Calls Tryz.prog 164 #[.agg #[.string s, .int .i64 a], .int .i64 i] w (ItEnd A (.ok P j) w) := by
  have hi1 : (0 : Int) ≤ i := by omega
  have hi2 : (i : Int) ≤ s.size := by omega
  have HD := Lib.hid (coll_at s i _ hd)
  have HC := Lib.hid (class_at s i _ hc)
  have HE := Lib.hid hE
  have HX := Lib.hid HI
  clear HI
  have hlz : (s.extract i s.size).size = s.size - i := by simp
  have dL : decide ((2 : Int) < ((s.extract i s.size).size : Int)) = true := by rw [hlz]; simp; omega
  have dM : decide (2 < (s.extract i s.size).size) = true := by rw [hlz]; simp; omega
  have dl1 : 1 < (s.extract i s.size).size := by omega
  have dl2 : 2 < (s.extract i s.size).size := by omega
  have q1 : (s.extract i s.size)[1].toNat = bt s (i + 1) := by rw [bt_at dl1, bt_ext]
  have q2 : (s.extract i s.size)[2].toNat = bt s (i + 2) := by rw [bt_at dl2, bt_ext]
  have e1 : (((s.extract i s.size)[1].toNat : Int) == 45) = true := by rw [q1]; simp; omega
  have e2 : (((s.extract i s.size)[2].toNat : Int) != 93) = true := by rw [q2]; simp; omega
  clear q1 q2
  clear hE hd hc h2 h45 h93
  clear hlz
  have hz0 : i ≤ s.size := by omega
  go_enter Tryz.func164, Tryz.ntmps164
  go_wp2_with fail
  refine (HD.out _).mono ?_; rintro e w' ⟨rfl, rfl⟩
  generalize s.extract i s.size = t at *
  generalize hW : World.alloc (World.alloc _ _) _ = W at *
  have Z : W.heap[w.heap.size + 1]? = some (.cells noSet 25) := by rw [← hW]; exact (two_new w _ _).2
  have Z0 : W.heap[w.heap.size]? = some (.cells #[.string s, .int .i64 a] 172) := by rw [← hW]; exact (two_new w _ _).1
  have hb0 : Below w.heap.size w W := by rw [← hW]; go_grown
  have hsz : W.heap.size = w.heap.size + 2 := by rw [← hW]; simp
  have HE' := Lib.hid (HE.out.below hb0)
  have ZZ := Lib.hid Z; have HB0 := Lib.hid hb0; have HSZ := Lib.hid hsz
  clear hW Z hb0 hsz
  have ZR := Lib.hid Z0
  clear Z0
  go_wp2_with fail
  refine (HC.out _).mono ?_; rintro e w' ⟨rfl, rfl⟩
  go_wp2_with (first
    | (refine wpList_load_row rfl 172 (.tmp 2) rfl w.heap.size rfl 172 _ (0, 0) _ ZR.out Tryz.underlying172 rfl (by kernel_rfl) ?_)
    | fail)
  refine (HX.out _ HE'.out).mono ?_
  intro e w1 he
  obtain ⟨rfl, hb⟩ := he.ok rfl
  have Z := Lib.hid (keep_blk hb ZZ.out)
  have HB := Lib.hid (HB0.out.trans (hb.mono HB0.out.size))
  clear hb he
  go_wp2_with (first
    | (refine wpList_store_row rfl 25 (.tmp 4) (.tmp 45) rfl (w.heap.size + 1) #[.int .u64 (Oc.U (Oc.mk (P) 0)), .int .u64 (Oc.U (Oc.mk (P) 1)), .int .u64 (Oc.U (Oc.mk (P) 2)), .int .u64 (Oc.U (Oc.mk (P) 3))] rfl rfl 25 _ Z.out (by kernel_rfl) rfl (setP_one _) ?_)
    | fail)
  exact bodyPost_ret (results_row_two rfl _ _ (w.heap.size + 1) 25 #[.int .u64 (Oc.U (Oc.mk (P) 0)), .int .u64 (Oc.U (Oc.mk (P) 1)), .int .u64 (Oc.U (Oc.mk (P) 2)), .int .u64 (Oc.U (Oc.mk (P) 3))] (0, 0) _ _ _ rfl rfl rfl (heap_setRow Z.out) Tryz.underlying25 rfl (by kernel_rfl)) rfl ⟨by exact rfl, below_setRow HB.out (Nat.le_succ _) _⟩
set_option maxRecDepth 100000 in
set_option maxHeartbeats 4000000 in
theorem britem_range_err (A : Nat → Addr) (s : ByteArray) (_hs : s.size ≤ 4294967280) (a i : Nat) (hi : i < s.size) (hd : Br.dotted (bt s) i = false) (hc : Br.colon (bt s) i = false) (h2 : i + 2 < s.size) (h45 : bt s (i + 1) = 45) (h93 : bt s (i + 2) ≠ 93) (c : Nat) (q : Int) (HI : ∀ w, BrEnv w A → Calls Tryz.prog 172 #[.agg #[.string s, .int .i64 a], .int .i64 i] w (ItEnd A (.err c q) w)) (w : World) (hE : BrEnv w A) :
    Calls Tryz.prog 164 #[.agg #[.string s, .int .i64 a], .int .i64 i] w (ItEnd A (.err c q) w) := by
  have hi1 : (0 : Int) ≤ i := by omega
  have hi2 : (i : Int) ≤ s.size := by omega
  have HD := Lib.hid (coll_at s i _ hd)
  have HC := Lib.hid (class_at s i _ hc)
  have HE := Lib.hid hE
  have HX := Lib.hid HI
  clear HI
  have hlz : (s.extract i s.size).size = s.size - i := by simp
  have dL : decide ((2 : Int) < ((s.extract i s.size).size : Int)) = true := by rw [hlz]; simp; omega
  have dM : decide (2 < (s.extract i s.size).size) = true := by rw [hlz]; simp; omega
  have dl1 : 1 < (s.extract i s.size).size := by omega
  have dl2 : 2 < (s.extract i s.size).size := by omega
  have q1 : (s.extract i s.size)[1].toNat = bt s (i + 1) := by rw [bt_at dl1, bt_ext]
  have q2 : (s.extract i s.size)[2].toNat = bt s (i + 2) := by rw [bt_at dl2, bt_ext]
  have e1 : (((s.extract i s.size)[1].toNat : Int) == 45) = true := by rw [q1]; simp; omega
  have e2 : (((s.extract i s.size)[2].toNat : Int) != 93) = true := by rw [q2]; simp; omega
  clear q1 q2
  clear hE hd hc h2 h45 h93
  clear hlz
  have hz0 : i ≤ s.size := by omega
  go_enter Tryz.func164, Tryz.ntmps164
  go_wp2_with fail
  refine (HD.out _).mono ?_; rintro e w' ⟨rfl, rfl⟩
  generalize s.extract i s.size = t at *
  generalize hW : World.alloc (World.alloc _ _) _ = W at *
  have Z : W.heap[w.heap.size + 1]? = some (.cells noSet 25) := by rw [← hW]; exact (two_new w _ _).2
  have Z0 : W.heap[w.heap.size]? = some (.cells #[.string s, .int .i64 a] 172) := by rw [← hW]; exact (two_new w _ _).1
  have hb0 : Below w.heap.size w W := by rw [← hW]; go_grown
  have hsz : W.heap.size = w.heap.size + 2 := by rw [← hW]; simp
  have HE' := Lib.hid (HE.out.below hb0)
  have ZZ := Lib.hid Z; have HB0 := Lib.hid hb0; have HSZ := Lib.hid hsz
  clear hW Z hb0 hsz
  have ZR := Lib.hid Z0
  clear Z0
  go_wp2_with fail
  refine (HC.out _).mono ?_; rintro e w' ⟨rfl, rfl⟩
  go_wp2_with (first
    | (refine wpList_load_row rfl 172 (.tmp 2) rfl w.heap.size rfl 172 _ (0, 0) _ ZR.out Tryz.underlying172 rfl (by kernel_rfl) ?_)
    | fail)
  refine (HX.out _ HE'.out).mono ?_
  intro e w1 he
  obtain ⟨v, rfl, hv, hb⟩ := he.err rfl
  obtain ⟨q', rfl⟩ := hv.iface
  have Z := Lib.hid (keep_blk hb ZZ.out)
  have HB := Lib.hid (HB0.out.trans (hb.mono HB0.out.size))
  have HV := Lib.hid hv
  clear hb hv he
  go_wp2_with (first
    | (refine wpList_store_row rfl 25 (.tmp 4) (.tmp 45) rfl (w.heap.size + 1) noSet rfl rfl 25 _ Z.out (by kernel_rfl) rfl noSet_one ?_)
    | fail)
  exact bodyPost_ret (results_row_two rfl _ _ (w.heap.size + 1) 25 noSet (0, 0) _ _ _ rfl rfl rfl (heap_setRow Z.out) Tryz.underlying25 rfl (by kernel_rfl)) rfl ⟨⟨_, rfl, (HV.out.setRow (by rw [HSZ.out]; omega) noSet).down HB0.out.size⟩, below_setRow HB.out (Nat.le_succ _) _⟩
set_option maxRecDepth 100000 in
set_option maxHeartbeats 4000000 in
theorem britem_short (A : Nat → Addr) (s : ByteArray) (_hs : s.size ≤ 4294967280) (a i : Nat) (hi : i < s.size) (hd : Br.dotted (bt s) i = false) (hc : Br.colon (bt s) i = false) (h2 : s.size ≤ i + 2) (w : World) (hE : BrEnv w A) :
    Calls Tryz.prog 164 #[.agg #[.string s, .int .i64 a], .int .i64 i] w (ItEnd A (.ok (fun b => b == bt s i) (i + 1)) w) := by
  have hi1 : (0 : Int) ≤ i := by omega
  have hi2 : (i : Int) ≤ s.size := by omega
  have HD := Lib.hid (coll_at s i _ hd)
  have HC := Lib.hid (class_at s i _ hc)
  have HE := Lib.hid hE
  have hlz : (s.extract i s.size).size = s.size - i := by simp
  have dL : decide ((2 : Int) < ((s.extract i s.size).size : Int)) = false := by rw [hlz]; simp; omega
  have dM : decide (2 < (s.extract i s.size).size) = false := by rw [hlz]; simp; omega
  have ql : 0 < (s.extract i s.size).size := by omega
  have q0 : (s.extract i s.size)[0].toNat = bt s i := by rw [bt_at ql, bt_ext]; rfl
  have hx256 : bt s i < 256 := (bt_txt s).1 i hi
  have hw : IntKind.i64.wrap ((i : Int) + 1) = (i : Int) + 1 := IntWalk.i64_in _ (by omega)
  clear hE hd hc h2
  clear hlz
  generalize bt s i = x at *
  have hz0 : i ≤ s.size := by omega
  go_enter Tryz.func164, Tryz.ntmps164
  go_wp2_with fail
  refine (HD.out _).mono ?_; rintro e w' ⟨rfl, rfl⟩
  generalize s.extract i s.size = t at *
  generalize hW : World.alloc (World.alloc _ _) _ = W at *
  have Z : W.heap[w.heap.size + 1]? = some (.cells noSet 25) := by rw [← hW]; exact (two_new w _ _).2
  have Z0 : W.heap[w.heap.size]? = some (.cells #[.string s, .int .i64 a] 172) := by rw [← hW]; exact (two_new w _ _).1
  have hb0 : Below w.heap.size w W := by rw [← hW]; go_grown
  have hsz : W.heap.size = w.heap.size + 2 := by rw [← hW]; simp
  have HE' := Lib.hid (HE.out.below hb0)
  have ZZ := Lib.hid Z; have HB0 := Lib.hid hb0; have HSZ := Lib.hid hsz
  clear hW Z hb0 hsz
  have ZR := Lib.hid Z0
  clear Z0
  go_wp2_with fail
  refine (HC.out _).mono ?_; rintro e w' ⟨rfl, rfl⟩
  go_wp2_with fail
  refine (of_p x hx256 _ (by first | rfl | rw [q0]) _ _ rfl _).mono ?_
  rintro e w1 ⟨rfl, hb⟩
  have hbA : Below W.heap.size W w1 := ((Below.refl _ _).alloc (Nat.le_refl _) _).trans (hb.mono (by simp))
  have Z := Lib.hid (keep_blk hbA ZZ.out)
  have HB := Lib.hid (HB0.out.trans (hbA.mono HB0.out.size))
  clear hb hbA
  go_wp2_with (first
    | (refine wpList_store_row rfl 25 (.tmp 4) (.tmp 51) rfl (w.heap.size + 1) #[.int .u64 (Oc.U (Oc.mk (fun b => b == x) 0)), .int .u64 (Oc.U (Oc.mk (fun b => b == x) 1)), .int .u64 (Oc.U (Oc.mk (fun b => b == x) 2)), .int .u64 (Oc.U (Oc.mk (fun b => b == x) 3))] rfl rfl 25 _ Z.out (by kernel_rfl) rfl (setP_one _) ?_)
    | fail)
  exact bodyPost_ret (results_row_two rfl _ _ (w.heap.size + 1) 25 #[.int .u64 (Oc.U (Oc.mk (fun b => b == x) 0)), .int .u64 (Oc.U (Oc.mk (fun b => b == x) 1)), .int .u64 (Oc.U (Oc.mk (fun b => b == x) 2)), .int .u64 (Oc.U (Oc.mk (fun b => b == x) 3))] (0, 0) _ _ _ rfl rfl rfl (heap_setRow Z.out) Tryz.underlying25 rfl (by kernel_rfl)) rfl ⟨by exact rfl, below_setRow HB.out (Nat.le_succ _) _⟩
set_option maxRecDepth 100000 in
set_option maxHeartbeats 4000000 in
theorem britem_nodash (A : Nat → Addr) (s : ByteArray) (_hs : s.size ≤ 4294967280) (a i : Nat) (hi : i < s.size) (hd : Br.dotted (bt s) i = false) (hc : Br.colon (bt s) i = false) (h2 : i + 2 < s.size) (h45 : bt s (i + 1) ≠ 45) (w : World) (hE : BrEnv w A) :
    Calls Tryz.prog 164 #[.agg #[.string s, .int .i64 a], .int .i64 i] w (ItEnd A (.ok (fun b => b == bt s i) (i + 1)) w) := by
  have hi1 : (0 : Int) ≤ i := by omega
  have hi2 : (i : Int) ≤ s.size := by omega
  have HD := Lib.hid (coll_at s i _ hd)
  have HC := Lib.hid (class_at s i _ hc)
  have HE := Lib.hid hE
  have hlz : (s.extract i s.size).size = s.size - i := by simp
  have dL : decide ((2 : Int) < ((s.extract i s.size).size : Int)) = true := by rw [hlz]; simp; omega
  have dM : decide (2 < (s.extract i s.size).size) = true := by rw [hlz]; simp; omega
  have dl1 : 1 < (s.extract i s.size).size := by omega
  have dl2 : 2 < (s.extract i s.size).size := by omega
  have q1 : (s.extract i s.size)[1].toNat = bt s (i + 1) := by rw [bt_at dl1, bt_ext]
  have q2 : (s.extract i s.size)[2].toNat = bt s (i + 2) := by rw [bt_at dl2, bt_ext]
  have e1 : (((s.extract i s.size)[1].toNat : Int) == 45) = false := by rw [q1]; simp; omega
  clear q1 q2
  have ql : 0 < (s.extract i s.size).size := by omega
  have q0 : (s.extract i s.size)[0].toNat = bt s i := by rw [bt_at ql, bt_ext]; rfl
  have hx256 : bt s i < 256 := (bt_txt s).1 i hi
  have hw : IntKind.i64.wrap ((i : Int) + 1) = (i : Int) + 1 := IntWalk.i64_in _ (by omega)
  clear hE hd hc h2 h45
  clear hlz
  generalize bt s i = x at *
  have hz0 : i ≤ s.size := by omega
  go_enter Tryz.func164, Tryz.ntmps164
  go_wp2_with fail
  refine (HD.out _).mono ?_; rintro e w' ⟨rfl, rfl⟩
  generalize s.extract i s.size = t at *
  generalize hW : World.alloc (World.alloc _ _) _ = W at *
  have Z : W.heap[w.heap.size + 1]? = some (.cells noSet 25) := by rw [← hW]; exact (two_new w _ _).2
  have Z0 : W.heap[w.heap.size]? = some (.cells #[.string s, .int .i64 a] 172) := by rw [← hW]; exact (two_new w _ _).1
  have hb0 : Below w.heap.size w W := by rw [← hW]; go_grown
  have hsz : W.heap.size = w.heap.size + 2 := by rw [← hW]; simp
  have HE' := Lib.hid (HE.out.below hb0)
  have ZZ := Lib.hid Z; have HB0 := Lib.hid hb0; have HSZ := Lib.hid hsz
  clear hW Z hb0 hsz
  have ZR := Lib.hid Z0
  clear Z0
  go_wp2_with fail
  refine (HC.out _).mono ?_; rintro e w' ⟨rfl, rfl⟩
  go_wp2_with fail
  refine (of_p x hx256 _ (by first | rfl | rw [q0]) _ _ rfl _).mono ?_
  rintro e w1 ⟨rfl, hb⟩
  have hbA : Below W.heap.size W w1 := ((Below.refl _ _).alloc (Nat.le_refl _) _).trans (hb.mono (by simp))
  have Z := Lib.hid (keep_blk hbA ZZ.out)
  have HB := Lib.hid (HB0.out.trans (hbA.mono HB0.out.size))
  clear hb hbA
  go_wp2_with (first
    | (refine wpList_store_row rfl 25 (.tmp 4) (.tmp 51) rfl (w.heap.size + 1) #[.int .u64 (Oc.U (Oc.mk (fun b => b == x) 0)), .int .u64 (Oc.U (Oc.mk (fun b => b == x) 1)), .int .u64 (Oc.U (Oc.mk (fun b => b == x) 2)), .int .u64 (Oc.U (Oc.mk (fun b => b == x) 3))] rfl rfl 25 _ Z.out (by kernel_rfl) rfl (setP_one _) ?_)
    | fail)
  exact bodyPost_ret (results_row_two rfl _ _ (w.heap.size + 1) 25 #[.int .u64 (Oc.U (Oc.mk (fun b => b == x) 0)), .int .u64 (Oc.U (Oc.mk (fun b => b == x) 1)), .int .u64 (Oc.U (Oc.mk (fun b => b == x) 2)), .int .u64 (Oc.U (Oc.mk (fun b => b == x) 3))] (0, 0) _ _ _ rfl rfl rfl (heap_setRow Z.out) Tryz.underlying25 rfl (by kernel_rfl)) rfl ⟨by exact rfl, below_setRow HB.out (Nat.le_succ _) _⟩
set_option maxRecDepth 100000 in
set_option maxHeartbeats 4000000 in
theorem britem_brack (A : Nat → Addr) (s : ByteArray) (_hs : s.size ≤ 4294967280) (a i : Nat) (hi : i < s.size) (hd : Br.dotted (bt s) i = false) (hc : Br.colon (bt s) i = false) (h2 : i + 2 < s.size) (h45 : bt s (i + 1) = 45) (h93 : bt s (i + 2) = 93) (w : World) (hE : BrEnv w A) :
    Calls Tryz.prog 164 #[.agg #[.string s, .int .i64 a], .int .i64 i] w (ItEnd A (.ok (fun b => b == bt s i) (i + 1)) w) := by
  have hi1 : (0 : Int) ≤ i := by omega
  have hi2 : (i : Int) ≤ s.size := by omega
  have HD := Lib.hid (coll_at s i _ hd)
  have HC := Lib.hid (class_at s i _ hc)
  have HE := Lib.hid hE
  have hlz : (s.extract i s.size).size = s.size - i := by simp
  have dL : decide ((2 : Int) < ((s.extract i s.size).size : Int)) = true := by rw [hlz]; simp; omega
  have dM : decide (2 < (s.extract i s.size).size) = true := by rw [hlz]; simp; omega
  have dl1 : 1 < (s.extract i s.size).size := by omega
  have dl2 : 2 < (s.extract i s.size).size := by omega
  have q1 : (s.extract i s.size)[1].toNat = bt s (i + 1) := by rw [bt_at dl1, bt_ext]
  have q2 : (s.extract i s.size)[2].toNat = bt s (i + 2) := by rw [bt_at dl2, bt_ext]
  have e1 : (((s.extract i s.size)[1].toNat : Int) == 45) = true := by rw [q1]; simp; omega
  have e2 : (((s.extract i s.size)[2].toNat : Int) != 93) = false := by rw [q2]; simp; omega
  clear q1 q2
  have ql : 0 < (s.extract i s.size).size := by omega
  have q0 : (s.extract i s.size)[0].toNat = bt s i := by rw [bt_at ql, bt_ext]; rfl
  have hx256 : bt s i < 256 := (bt_txt s).1 i hi
  have hw : IntKind.i64.wrap ((i : Int) + 1) = (i : Int) + 1 := IntWalk.i64_in _ (by omega)
  clear hE hd hc h2 h45 h93
  clear hlz
  generalize bt s i = x at *
  have hz0 : i ≤ s.size := by omega
  go_enter Tryz.func164, Tryz.ntmps164
  go_wp2_with fail
  refine (HD.out _).mono ?_; rintro e w' ⟨rfl, rfl⟩
  generalize s.extract i s.size = t at *
  generalize hW : World.alloc (World.alloc _ _) _ = W at *
  have Z : W.heap[w.heap.size + 1]? = some (.cells noSet 25) := by rw [← hW]; exact (two_new w _ _).2
  have Z0 : W.heap[w.heap.size]? = some (.cells #[.string s, .int .i64 a] 172) := by rw [← hW]; exact (two_new w _ _).1
  have hb0 : Below w.heap.size w W := by rw [← hW]; go_grown
  have hsz : W.heap.size = w.heap.size + 2 := by rw [← hW]; simp
  have HE' := Lib.hid (HE.out.below hb0)
  have ZZ := Lib.hid Z; have HB0 := Lib.hid hb0; have HSZ := Lib.hid hsz
  clear hW Z hb0 hsz
  have ZR := Lib.hid Z0
  clear Z0
  go_wp2_with fail
  refine (HC.out _).mono ?_; rintro e w' ⟨rfl, rfl⟩
  go_wp2_with fail
  refine (of_p x hx256 _ (by first | rfl | rw [q0]) _ _ rfl _).mono ?_
  rintro e w1 ⟨rfl, hb⟩
  have hbA : Below W.heap.size W w1 := ((Below.refl _ _).alloc (Nat.le_refl _) _).trans (hb.mono (by simp))
  have Z := Lib.hid (keep_blk hbA ZZ.out)
  have HB := Lib.hid (HB0.out.trans (hbA.mono HB0.out.size))
  clear hb hbA
  go_wp2_with (first
    | (refine wpList_store_row rfl 25 (.tmp 4) (.tmp 51) rfl (w.heap.size + 1) #[.int .u64 (Oc.U (Oc.mk (fun b => b == x) 0)), .int .u64 (Oc.U (Oc.mk (fun b => b == x) 1)), .int .u64 (Oc.U (Oc.mk (fun b => b == x) 2)), .int .u64 (Oc.U (Oc.mk (fun b => b == x) 3))] rfl rfl 25 _ Z.out (by kernel_rfl) rfl (setP_one _) ?_)
    | fail)
  exact bodyPost_ret (results_row_two rfl _ _ (w.heap.size + 1) 25 #[.int .u64 (Oc.U (Oc.mk (fun b => b == x) 0)), .int .u64 (Oc.U (Oc.mk (fun b => b == x) 1)), .int .u64 (Oc.U (Oc.mk (fun b => b == x) 2)), .int .u64 (Oc.U (Oc.mk (fun b => b == x) 3))] (0, 0) _ _ _ rfl rfl rfl (heap_setRow Z.out) Tryz.underlying25 rfl (by kernel_rfl)) rfl ⟨by exact rfl, below_setRow HB.out (Nat.le_succ _) _⟩
end Go.Proofs.YtlbhbjmobcikfaaGreatDoor
/- What the items of a bracket expression are read to, one behind the other. -/
namespace Go.Proofs.YtlbhbjmobcikfaaGreatDoor
open Go.RowKit
theorem classed_any (A : Nat → Addr) (s : ByteArray) (hs : s.size ≤ 4294967280) (a i : Nat) (hc : Br.colon (bt s) i = true) (w : World) (hE : BrEnv w A) :
    Calls Tryz.prog 171 #[.agg #[.string s, .int .i64 a], .int .i64 i] w (ItEnd A (Br.classed (bt s) s.size i a) w) := by
  unfold Br.colon at hc
  simp only [Bool.and_eq_true, beq_iff_eq] at hc
  have h1 := (bt_txt s).lt hc.2 (by omega)
  unfold Br.classed
  cases hk : Br.clos (bt s) (s.size - (i + 3)) (i + 2) with
  | none => exact brnamed_open A s hs a i (by omega) hk w hE
  | some e =>
    obtain ⟨g1, g2, g3, g4, -⟩ := Br.clos_some hk
    have hlt := (bt_txt s).lt g4 (by omega)
    obtain ⟨m, rfl⟩ : ∃ m, e = i + 2 + m := ⟨e - (i + 2), by omega⟩
    show Calls _ _ _ _ (ItEnd A (Br.named (bt s) i (i + 2 + m)) w)
    unfold Br.named
    rw [name_part s (i + 2) (i + 2 + m) (by omega) (by omega)]
    cases hn : Br.clsAt ((s.extract (i + 2) (i + 2 + m)).data.toList.map (·.toNat)) with
    | none => exact brnamed_no A s hs a i m (by omega) hk (clsAt_none hn) w hE
    | some k =>
      obtain ⟨hk12, hnm⟩ := clsAt_some hn
      exact brnamed_yes A s hs a i m k (by omega) hk (hnm ▸ known k hk12) w hE
theorem item_any (A : Nat → Addr) (s : ByteArray) (hs : s.size ≤ 4294967280) (a i : Nat) (hi : i < s.size) (w : World) (hE : BrEnv w A) :
    Calls Tryz.prog 164 #[.agg #[.string s, .int .i64 a], .int .i64 i] w (ItEnd A (Br.item (bt s) s.size i a) w) := by
  unfold Br.item
  cases hd : Br.dotted (bt s) i with
  | true => exact britem_coll A s hs a i hi hd w hE
  | false =>
    rw [if_neg (by simp)]
    cases hc : Br.colon (bt s) i with
    | true =>
      rw [if_pos rfl]
      have HI := fun w hE => classed_any A s hs a i hc w hE
      cases hR : Br.classed (bt s) s.size i a with
      | ok P j => rw [hR] at HI; exact britem_class_ok A s hs a i hi hd hc P j HI w hE
      | err c q => rw [hR] at HI; exact britem_class_err A s hs a i hi hd hc c q HI w hE
    | false =>
      rw [if_neg (by simp)]
      unfold Br.isRange
      by_cases h2 : i + 2 < s.size
      · by_cases h45 : bt s (i + 1) = 45
        · by_cases h93 : bt s (i + 2) = 93
          · rw [if_neg (by simp [h93])]
            exact britem_brack A s hs a i hi hd hc h2 h45 h93 w hE
          · rw [if_pos (by simp [h93, h45, h2])]
            have HI := fun w hE => span_any A s hs a i h2 w hE
            cases hR : Br.ranged (bt s) i with
            | ok P j => rw [hR] at HI; exact britem_range_ok A s hs a i hi hd hc h2 h45 h93 P j HI w hE
            | err c q => rw [hR] at HI; exact britem_range_err A s hs a i hi hd hc h2 h45 h93 c q HI w hE
        · rw [if_neg (by simp [h45])]
          exact britem_nodash A s hs a i hi hd hc h2 h45 w hE
      · rw [if_neg (by simp [h2])]
        exact britem_short A s hs a i hi hd hc (by omega) w hE
theorem join_p {w : World} {v : Value} {P Q : Nat → Bool} (h : Sl2 w v (Oc.mk P 0) (Oc.mk P 1) (Oc.mk P 2) (Oc.mk P 3) (Oc.mk Q 0) (Oc.mk Q 1) (Oc.mk Q 2) (Oc.mk Q 3)) : Calls Tryz.prog 143 #[v] w fun e w' =>
    e = .returned (.agg #[.int .u64 (Oc.U (Oc.mk (fun x => P x || Q x) 0)), .int .u64 (Oc.U (Oc.mk (fun x => P x || Q x) 1)), .int .u64 (Oc.U (Oc.mk (fun x => P x || Q x) 2)), .int .u64 (Oc.U (Oc.mk (fun x => P x || Q x) 3))]) ∧ Below w.heap.size w w' := by
  have h2 := join2_any h
  rw [Br.mk_or, Br.mk_or, Br.mk_or, Br.mk_or] at h2
  exact h2
set_option maxRecDepth 100000 in
set_option maxHeartbeats 8000000 in
theorem britems_any (A : Nat → Addr) (s : ByteArray) (hs : s.size ≤ 4294967280) (a first : Nat) (hf : first ≤ s.size) (R : Br.Ans) (hR : Br.items (bt s) s.size a (s.size + 1) first (fun _ => false) false = R) (w : World) (hE : BrEnv w A) :
    Calls Tryz.prog 157 #[.agg #[.string s, .int .i64 a], .int .i64 first] w (ItEnd A R w) := by
  have HR := Lib.hid hR; have HE := Lib.hid hE
  clear hR hE
  go_enter Tryz.func157, Tryz.ntmps157
  go_wp2_with fail
  go_loopw [8] (fun iv wr => ∃ (P : Nat → Bool) (i k : Nat), iv = .int .i64 i ∧ first ≤ i ∧ i ≤ s.size ∧ s.size < i + k ∧ Hid (Br.items (bt s) s.size a k i P (decide (first < i)) = R) ∧ Hid (Below w.heap.size w wr) ∧ w.heap.size + 2 < wr.heap.size ∧
    Hid (wr.heap[w.heap.size]? = some (.cells #[.string s, .int .i64 a] 172)) ∧ Hid (wr.heap[w.heap.size + 1]? = some (.cells noSet 25)) ∧
    Hid (wr.heap[w.heap.size + 2]? = some (.cells #[.int .u64 (Oc.U (Oc.mk (P) 0)), .int .u64 (Oc.U (Oc.mk (P) 1)), .int .u64 (Oc.U (Oc.mk (P) 2)), .int .u64 (Oc.U (Oc.mk (P) 3))] 25))) (fun iv _ => s.size - (intOf iv).toNat)
  case atStart =>
    have h3 := three_new w (.cells #[.string s, .int .i64 a] 172) (.cells noSet 25) (.cells noSet 25)
    exact ⟨fun _ => false, first, s.size + 1, rfl, Nat.le_refl _, hf, by omega, Lib.hid (by rw [show decide (first < first) = false by simp]; exact HR.out), Lib.hid (by go_grown), by simp, Lib.hid h3.1, Lib.hid h3.2.1, Lib.hid (h3.2.2.trans (by rw [Oc.mk_none, Oc.mk_none, Oc.mk_none, Oc.mk_none]; rfl))⟩
  case round =>
    obtain ⟨P, i, k, rfl, hfi, hi, hk, hit, HB, hsz, ZR, Z1, Z2⟩ := hrel
    obtain ⟨k, rfl⟩ : ∃ k', k = k' + 1 := ⟨k - 1, by omega⟩
    have HE1 := Lib.hid (HE.out.below HB.out)
    have c0 : wr.cell? ⟨w.heap.size, 0, none⟩ = some (.string s) := by unfold World.cell?; rw [ZR.out]; rfl
    have hit' := hit.out
    clear hit
    unfold Br.items at hit'
    by_cases hlt : i < s.size
    · have hd : decide ((i : Int) < s.size) = true := by simp; omega
      have hi0 : (0 : Int) ≤ i := by omega
      by_cases hx : (decide (first < i) && bt s i == 93) = true
      · rw [if_pos hx] at hit'
        simp only [Bool.and_eq_true, decide_eq_true_eq, beq_iff_eq] at hx
        have e93 : ((s[i].toNat : Int) == 93) = true := by rw [bt_at hlt, hx.2]; rfl
        have hg : decide (first < i) = true := by simpa using hx.1
        subst hit'
        clear hx
        go_wp2_with (first
          | (refine wpList_load_row rfl 25 (.tmp 7) rfl (w.heap.size + 2) rfl 25 _ (0, 0) _ Z2.out Tryz.underlying25 rfl (by kernel_rfl) ?_)
          | (refine wpList_store_row rfl 25 (.tmp 4) (.tmp 28) rfl (w.heap.size + 1) #[.int .u64 (Oc.U (Oc.mk (P) 0)), .int .u64 (Oc.U (Oc.mk (P) 1)), .int .u64 (Oc.U (Oc.mk (P) 2)), .int .u64 (Oc.U (Oc.mk (P) 3))] rfl rfl 25 _ Z1.out (by kernel_rfl) rfl setC_one ?_)
          | fail)
        exact bodyPost_ret (results_row_two rfl _ _ (w.heap.size + 1) 25 #[.int .u64 (Oc.U (Oc.mk (P) 0)), .int .u64 (Oc.U (Oc.mk (P) 1)), .int .u64 (Oc.U (Oc.mk (P) 2)), .int .u64 (Oc.U (Oc.mk (P) 3))] (0, 0) _ _ _ rfl rfl rfl (heap_setRow Z1.out) Tryz.underlying25 rfl (by kernel_rfl)) rfl ⟨by exact rfl, below_setRow HB.out (Nat.le_succ _) _⟩
      · rw [if_neg hx, if_neg (by omega)] at hit'
        have hb93 : (((s[i].toNat : Int) == 93) = false ∧ decide (i = i) = true) ∨ (((s[i].toNat : Int) == 93) = true ∧ decide (first < i) = false) := by
          rw [bt_at hlt]
          by_cases h93 : bt s i = 93
          · refine .inr ⟨by rw [h93]; rfl, ?_⟩
            cases hq : decide (first < i) with
            | false => rfl
            | true => rw [hq, h93] at hx; exact absurd rfl hx
          · exact .inl ⟨by simp; omega, by simp⟩
        have hitem := fun w hE => item_any A s hs a i hlt w hE
        clear hx
        cases hI : Br.item (bt s) s.size i a with
        | err c q =>
          rw [hI] at hit' hitem
          simp only at hit'
          subst hit'
          have HI := Lib.hid hitem
          clear hitem hI
          rcases hb93 with ⟨e93, hg⟩ | ⟨e93, hg⟩
          all_goals
            go_wp2_with (first
              | (refine wpList_load_row rfl 172 (.tmp 2) rfl w.heap.size rfl 172 _ (0, 0) _ ZR.out Tryz.underlying172 rfl (by kernel_rfl) ?_)
              | fail)
            refine (HI.out _ HE1.out).mono ?_
            intro e w1 he
            obtain ⟨v, rfl, hv, hb⟩ := he.err rfl
            obtain ⟨q', rfl⟩ := hv.iface
            have hbA : Below wr.heap.size wr (w1.alloc (.cells noSet 25)) := hb.alloc hb.size _
            have Y1 := Lib.hid (keep_blk hbA Z1.out)
            have HB1 := Lib.hid (HB.out.trans (hbA.mono HB.out.size))
            have HV := Lib.hid (hv.later ((Below.refl w1.heap.size w1).alloc (Nat.le_refl _) (.cells noSet 25)))
            clear hb hbA hv he c0
            go_wp2_with (first
              | (refine wpList_store_row rfl 25 (.tmp 4) (.tmp 39) rfl (w.heap.size + 1) noSet rfl rfl 25 _ Y1.out (by kernel_rfl) rfl noSet_one ?_)
              | fail)
            exact bodyPost_ret (results_row_two rfl _ _ (w.heap.size + 1) 25 noSet (0, 0) _ _ _ rfl rfl rfl (heap_setRow Y1.out) Tryz.underlying25 rfl (by kernel_rfl)) rfl ⟨⟨_, rfl, (HV.out.setRow (by omega) noSet).down HB.out.size⟩, below_setRow HB1.out (Nat.le_succ _) _⟩
        | ok Q j =>
          rw [hI] at hit' hitem
          simp only at hit'
          obtain ⟨hj1, hj2⟩ := Br.item_next hlt hI
          have HI := Lib.hid hitem
          have HIT : Hid (Br.items (bt s) s.size a k j (fun x => P x || Q x) (decide (first < j)) = R) := Lib.hid (by rw [show decide (first < j) = true by simp; omega]; exact hit')
          clear hitem hI hit'
          rcases hb93 with ⟨e93, hg⟩ | ⟨e93, hg⟩
          all_goals
            go_wp2_with (first
              | (refine wpList_load_row rfl 172 (.tmp 2) rfl w.heap.size rfl 172 _ (0, 0) _ ZR.out Tryz.underlying172 rfl (by kernel_rfl) ?_)
              | fail)
            refine (HI.out _ HE1.out).mono ?_
            intro e w1 he
            obtain ⟨rfl, hb⟩ := he.ok rfl
            have hbA : Below wr.heap.size wr (w1.alloc (.cells #[.int .u64 (Oc.U (Oc.mk (Q) 0)), .int .u64 (Oc.U (Oc.mk (Q) 1)), .int .u64 (Oc.U (Oc.mk (Q) 2)), .int .u64 (Oc.U (Oc.mk (Q) 3))] 25)) := hb.alloc hb.size _
            have YR := Lib.hid (keep_blk hbA ZR.out)
            have Y1 := Lib.hid (keep_blk hbA Z1.out)
            have Y2 := Lib.hid (keep_blk hbA Z2.out)
            have Y3 := Lib.hid (heap_alloc_new w1 (.cells #[.int .u64 (Oc.U (Oc.mk (Q) 0)), .int .u64 (Oc.U (Oc.mk (Q) 1)), .int .u64 (Oc.U (Oc.mk (Q) 2)), .int .u64 (Oc.U (Oc.mk (Q) 3))] 25))
            have HB1 := Lib.hid (HB.out.trans (hbA.mono HB.out.size))
            have hsz1 : wr.heap.size ≤ w1.heap.size := hb.size
            clear hb hbA he c0
            go_wp2_with (first
              | (refine wpList_load_row rfl 25 (.tmp 7) rfl (w.heap.size + 2) rfl 25 _ (0, 0) _ Y2.out Tryz.underlying25 rfl (by kernel_rfl) ?_)
              | (refine wpList_load_row rfl 25 (.tmp 9) rfl w1.heap.size rfl 25 _ (0, 0) _ Y3.out Tryz.underlying25 rfl (by kernel_rfl) ?_)
              | fail)
            have hsl : Sl2 ((w1.alloc (.cells #[.int .u64 (Oc.U (Oc.mk Q 0)), .int .u64 (Oc.U (Oc.mk Q 1)), .int .u64 (Oc.U (Oc.mk Q 2)), .int .u64 (Oc.U (Oc.mk Q 3))] 25)).alloc (.cells #[.int .u64 (Oc.U (Oc.mk P 0)), .int .u64 (Oc.U (Oc.mk P 1)), .int .u64 (Oc.U (Oc.mk P 2)), .int .u64 (Oc.U (Oc.mk P 3)), .int .u64 (Oc.U (Oc.mk Q 0)), .int .u64 (Oc.U (Oc.mk Q 1)), .int .u64 (Oc.U (Oc.mk Q 2)), .int .u64 (Oc.U (Oc.mk Q 3))] 25))
                (.slice (some ⟨w1.heap.size + 1, 0, none⟩) 2 2) (Oc.mk P 0) (Oc.mk P 1) (Oc.mk P 2) (Oc.mk P 3) (Oc.mk Q 0) (Oc.mk Q 1) (Oc.mk Q 2) (Oc.mk Q 3) := ⟨_, rfl, (two_new w1 _ _).2⟩
            refine (join_p hsl).mono ?_
            rintro e w3 ⟨rfl, hb3⟩
            have hbA : Below (w1.alloc (.cells #[.int .u64 (Oc.U (Oc.mk Q 0)), .int .u64 (Oc.U (Oc.mk Q 1)), .int .u64 (Oc.U (Oc.mk Q 2)), .int .u64 (Oc.U (Oc.mk Q 3))] 25)).heap.size (w1.alloc (.cells #[.int .u64 (Oc.U (Oc.mk Q 0)), .int .u64 (Oc.U (Oc.mk Q 1)), .int .u64 (Oc.U (Oc.mk Q 2)), .int .u64 (Oc.U (Oc.mk Q 3))] 25)) w3 := ((Below.refl _ _).alloc (Nat.le_refl _) _).trans (hb3.mono (by simp))
            have X0 := Lib.hid (keep_blk hbA YR.out)
            have X1 := Lib.hid (keep_blk hbA Y1.out)
            have X2 := Lib.hid (keep_blk hbA Y2.out)
            have HB3 := Lib.hid (HB1.out.trans (hbA.mono HB1.out.size))
            have hsz3 : w1.heap.size + 1 ≤ w3.heap.size := by have := hbA.size; simpa using this
            clear hb3 hbA hsl Y1 Y2 Y3 YR
            go_wp2_with (first
              | (refine wpList_store_row rfl 25 (.tmp 7) (.tmp 44) rfl (w.heap.size + 2) #[.int .u64 (Oc.U (Oc.mk (fun x => P x || Q x) 0)), .int .u64 (Oc.U (Oc.mk (fun x => P x || Q x) 1)), .int .u64 (Oc.U (Oc.mk (fun x => P x || Q x) 2)), .int .u64 (Oc.U (Oc.mk (fun x => P x || Q x) 3))] rfl rfl 25 _ X2.out (by kernel_rfl) rfl setC_one ?_)
              | fail)
            go_roundw
            case rel => exact ⟨fun x => P x || Q x, j, k, rfl, by omega, hj2, by omega, HIT, Lib.hid (below_setRow HB3.out (by omega) _), by simp; omega, Lib.hid ((heap_setRow_other _ _ _ (by omega)).trans X0.out), Lib.hid ((heap_setRow_other _ _ _ (by omega)).trans X1.out), Lib.hid (heap_setRow X2.out)⟩
            case measure => simp [intOf]; omega
    · have hd : decide ((i : Int) < s.size) = false := by simp; omega
      have h256 : bt s i = 256 := bt_out (by omega)
      rw [if_neg (by simp [h256]), if_pos (by omega)] at hit'
      subst hit'
      go_wp2_with (first
        | (refine wpList_load_row rfl 172 (.tmp 2) rfl w.heap.size rfl 172 _ (0, 0) _ ZR.out Tryz.underlying172 rfl (by kernel_rfl) ?_)
        | fail)
      refine (open_any A s a _ HE1.out).mono ?_
      intro e w1 he
      obtain ⟨v, rfl, hv, hb⟩ := he.err rfl
      obtain ⟨q', rfl⟩ := hv.iface
      have Y1 := Lib.hid (keep_blk hb Z1.out)
      have HB1 := Lib.hid (HB.out.trans (hb.mono HB.out.size))
      have HV := Lib.hid hv
      clear hb hv he c0
      go_wp2_with (first
        | (refine wpList_store_row rfl 25 (.tmp 4) (.tmp 48) rfl (w.heap.size + 1) noSet rfl rfl 25 _ Y1.out (by kernel_rfl) rfl noSet_one ?_)
        | fail)
      exact bodyPost_ret (results_row_two rfl _ _ (w.heap.size + 1) 25 noSet (0, 0) _ _ _ rfl rfl rfl (heap_setRow Y1.out) Tryz.underlying25 rfl (by kernel_rfl)) rfl ⟨⟨_, rfl, (HV.out.setRow (by omega) noSet).down HB.out.size⟩, below_setRow HB1.out (Nat.le_succ _) _⟩
end Go.Proofs.YtlbhbjmobcikfaaGreatDoor
/- Lists of one byte and what Of, Not, Less make of sets told by what they hold. -/
namespace Go.Proofs.YtlbhbjmobcikfaaGreatDoor
open Go.RowKit
/-- The same in a block that is new: at B or behind. -/
def Sl2N (B : Nat) (w : World) (v : Value) (a b c d a' b' c' d' : BitVec 64) : Prop := ∃ g, B ≤ g ∧ v = .slice (some ⟨g, 0, none⟩) 2 2 ∧ w.heap[g]? = some (.cells #[.int .u64 (Oc.U a), .int .u64 (Oc.U b), .int .u64 (Oc.U c), .int .u64 (Oc.U d), .int .u64 (Oc.U a'), .int .u64 (Oc.U b'), .int .u64 (Oc.U c'), .int .u64 (Oc.U d')] 25)
theorem Sl2N.plain {B : Nat} {w : World} {v : Value} {a b c d a' b' c' d' : BitVec 64} (h : Sl2N B w v a b c d a' b' c' d') : Sl2 w v a b c d a' b' c' d' := by
  obtain ⟨g, -, e, hg⟩ := h; exact ⟨g, e, hg⟩
theorem Sl2N.below {B : Nat} {w w' : World} {v : Value} {a b c d a' b' c' d' : BitVec 64} (h : Sl2N B w v a b c d a' b' c' d') (hb : Below w.heap.size w w') : Sl2N B w' v a b c d a' b' c' d' := by
  obtain ⟨g, hB, e, hg⟩ := h; exact ⟨g, hB, e, keep_blk hb hg⟩
theorem Sl2N.setRow {B : Nat} {w : World} {v : Value} {a b c d a' b' c' d' : BitVec 64} (h : Sl2N B w v a b c d a' b' c' d') {g : Nat} (hg : g < B) (cs : Array Value) : Sl2N B (w.setRow g cs) v a b c d a' b' c' d' := by
  obtain ⟨k, hB, e, hk⟩ := h; exact ⟨k, hB, e, (heap_setRow_other _ _ _ (by omega)).trans hk⟩
/-- A list of one byte. -/
def One (w : World) (v : Value) (m : Nat) : Prop := ∃ g, v = .slice (some ⟨g, 0, none⟩) 1 1 ∧ w.heap[g]? = some (.cells #[.int .u8 m] 5)
theorem One.below {w w' : World} {v : Value} {m : Nat} (h : One w v m) (hb : Below w.heap.size w w') : One w' v m := by
  obtain ⟨g, e, hg⟩ := h; exact ⟨g, e, keep_blk hb hg⟩
def OneN (B : Nat) (w : World) (v : Value) (m : Nat) : Prop := ∃ g, B ≤ g ∧ v = .slice (some ⟨g, 0, none⟩) 1 1 ∧ w.heap[g]? = some (.cells #[.int .u8 m] 5)
theorem OneN.plain {B : Nat} {w : World} {v : Value} {m : Nat} (h : OneN B w v m) : One w v m := by
  obtain ⟨g, -, e, hg⟩ := h; exact ⟨g, e, hg⟩
theorem OneN.below {B : Nat} {w w' : World} {v : Value} {m : Nat} (h : OneN B w v m) (hb : Below w.heap.size w w') : OneN B w' v m := by
  obtain ⟨g, hB, e, hg⟩ := h; exact ⟨g, hB, e, keep_blk hb hg⟩
theorem OneN.setRow {B : Nat} {w : World} {v : Value} {m : Nat} (h : OneN B w v m) {g : Nat} (hg : g < B) (cs : Array Value) : OneN B (w.setRow g cs) v m := by
  obtain ⟨k, hB, e, hk⟩ := h; exact ⟨k, hB, e, (heap_setRow_other _ _ _ (by omega)).trans hk⟩
theorem wp_bytes1 {o : Oper} {x : Act} {w : World} {K : Act → World → Prop} {Q : Exit → Act → World → Prop} (m : Int) (ho : o.op = .buildSlice 45 1 #[(0, .const (.int .u8 m))])
    (h : K (x.put o.dst (.slice (some ⟨w.heap.size, 0, none⟩) 1 1)) (w.alloc (.cells #[.int .u8 m] 5))) : o.wp Tryz.prog x w K Q := by
  obtain ⟨ie, hi, hz0, hz1, -⟩ := info_parts Tryz.infoByte
  refine wp_buildSlice 45 5 1 _ ho _ ie _ Tryz.underlying45 hi hz0 (by rw [hz1]; decide) (by rw [hz1]; decide) ?_ h
  rw [hz1]
  simp only [List.map_toArray, List.map_cons, List.map_nil, Act.eval]
  kernel_rfl
theorem one_any {w : World} {v : Value} {m : Nat} (hm : m < 256) (h : One w v m) : Calls Tryz.prog 118 #[v] w fun e w' => e = .returned (.agg #[.int .u64 (Oc.U (Oc.mk (fun b => b == m) 0)), .int .u64 (Oc.U (Oc.mk (fun b => b == m) 1)), .int .u64 (Oc.U (Oc.mk (fun b => b == m) 2)), .int .u64 (Oc.U (Oc.mk (fun b => b == m) 3))]) ∧ Below w.heap.size w w' := by
  obtain ⟨g, rfl, hg⟩ := h
  have hb : Oc.anyB (fun _ => m) 1 = fun b => b == m := by funext b; simp [Oc.anyB]
  have := of_any (some ⟨g, 0, none⟩) 1 1 (fun _ => m) (by omega) w (fun _ _ => hm) (fun i hi => by
    obtain rfl : i = 0 := by omega
    exact ⟨g, 0, rfl, (Array.getElem?_eq_some_iff.1 hg).1, by unfold World.cell?; rw [hg]; rfl⟩)
  rw [hb] at this
  exact this
theorem not_p (P : Nat → Bool) (w : World) : Calls Tryz.prog 145 #[(.agg #[.int .u64 (Oc.U (Oc.mk P 0)), .int .u64 (Oc.U (Oc.mk P 1)), .int .u64 (Oc.U (Oc.mk P 2)), .int .u64 (Oc.U (Oc.mk P 3))])] w fun e w' =>
    e = .returned (.agg #[.int .u64 (Oc.U (Oc.mk (fun x => !P x) 0)), .int .u64 (Oc.U (Oc.mk (fun x => !P x) 1)), .int .u64 (Oc.U (Oc.mk (fun x => !P x) 2)), .int .u64 (Oc.U (Oc.mk (fun x => !P x) 3))]) ∧ Below w.heap.size w w' := by
  have h := not_any (Oc.mk P 0) (Oc.mk P 1) (Oc.mk P 2) (Oc.mk P 3) w
  rw [Br.mk_not, Br.mk_not, Br.mk_not, Br.mk_not] at h
  exact h
end Go.Proofs.YtlbhbjmobcikfaaGreatDoor
