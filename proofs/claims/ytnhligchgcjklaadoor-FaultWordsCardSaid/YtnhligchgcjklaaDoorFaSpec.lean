/- What the calls of fault are to answer, as one word; what the laws' error is. -/
import Derived.Test.YtnhligchgcjklaaDoorFaTell
import Derived.Test.YtnhligchgcjklaaDoorFaSent
import Derived.Test.YtnhligchgcjklaaDoorFaEnv
namespace Go.Proofs.YtnhligchgcjklaaDoor
open Go.RowKit
/-- The number that the outermost link of a kind tells. -/
def toldOf (k : Bool) (l : List (Bool × Int × Nat)) : Option Int := (firstOf k l).map (·.1)
/-- v is an error of number c (-1: no sentinel) in the links l. -/
def ErrIn (A : Nat → Addr) (w : World) (v : Value) (c : Int) (l : List (Bool × Int × Nat)) : Prop :=
  ∃ a, Wrapped w (.iface 63 (.pointer (some a))) l v ∧ (∀ k x, toldOf k l = some x → isI64 x) ∧
    ((∃ k : Nat, k < 21 ∧ a = A k ∧ c = (k : Int) + 1) ∨ (c = -1 ∧ (∀ k, k < 21 → a ≠ A k) ∧ ∃ ca ta, w.heap[a.block]? = some (.cells ca ta (0, 0))))
theorem ErrIn.later {A : Nat → Addr} {w w' : World} {v : Value} {c : Int} {l : List (Bool × Int × Nat)} (h : ErrIn A w v c l) (hb : Below w.heap.size w w') : ErrIn A w' v c l := by
  obtain ⟨a, hw, hi, h | ⟨hc, hne, ca, ta, hr⟩⟩ := h
  · exact ⟨a, hw.later hb, hi, .inl h⟩
  · exact ⟨a, hw.later hb, hi, .inr ⟨hc, hne, ca, ta, keep_blk hb hr⟩⟩
theorem ErrIn.iface {A : Nat → Addr} {w : World} {v : Value} {c : Int} {l : List (Bool × Int × Nat)} (h : ErrIn A w v c l) : ∃ t q, v = .iface t q := by
  obtain ⟨a, hw, -⟩ := h; exact hw.iface
theorem ErrIn.code {A : Nat → Addr} {w : World} {v : Value} {c : Int} {l : List (Bool × Int × Nat)} (h : ErrIn A w v c l) : c ≠ 0 ∧ -1 ≤ c ∧ c ≤ 21 := by
  obtain ⟨a, hw, hi, ⟨k, hk, _, hc⟩ | ⟨hc, _⟩⟩ := h <;> omega
/-- What chapter 3 promises of the calls, as contracts. -/
structure FaultDoes : Prop where
  word : ∀ n w, FaEnv w → Calls Tryd.prog 17 #[.int .i64 n] w fun e w' => e = .returned (.string (wordAt n)) ∧ Below w.heap.size w w'
  codeNil : ∀ w, Calls Tryd.prog 11 #[.nilIface] w fun e w' => e = .returned (.int .i64 0) ∧ Below w.heap.size w w'
  code : ∀ A w v c l, Errs w A → ErrIn A w v c l → Calls Tryd.prog 11 #[v] w fun e w' => e = .returned (.int .i64 c) ∧ Below w.heap.size w w'
  placeNil : ∀ w, Calls Tryd.prog 14 #[.nilIface] w fun e w' => e = .returned (.tuple #[.int .i64 0, .bool false]) ∧ Below w.heap.size w w'
  place : ∀ A w v c l, FaEnv w → ErrIn A w v c l → Calls Tryd.prog 14 #[v] w fun e w' => e = .returned (.tuple #[.int .i64 (numO (toldOf false l)), .bool (hasO (toldOf false l))]) ∧ Below w.heap.size w w'
  indexNil : ∀ w, Calls Tryd.prog 15 #[.nilIface] w fun e w' => e = .returned (.tuple #[.int .i64 0, .bool false]) ∧ Below w.heap.size w w'
  index : ∀ A w v c l, FaEnv w → ErrIn A w v c l → Calls Tryd.prog 15 #[v] w fun e w' => e = .returned (.tuple #[.int .i64 (numO (toldOf true l)), .bool (hasO (toldOf true l))]) ∧ Below w.heap.size w w'
  tellNil : ∀ w, Calls Tryd.prog 12 #[.nilIface] w fun e w' => e = .returned (.string ⟨#[]⟩) ∧ Below w.heap.size w w'
  tell : ∀ A w v c l, Errs w A → FaEnv w → ErrIn A w v c l → Calls Tryd.prog 12 #[v] w fun e w' => (∃ s, e = .returned (.string s) ∧ s.data.toList = tellL (toldOf true l) (toldOf false l) c) ∧ Below w.heap.size w w'
/-- The number of the law's error. -/
def codeOf (n : Int) : Int := if n < 0 ∨ 21 < n then -1 else n
theorem code_any (n : Int) (w : World) : Calls Tryd.prog 10 #[.int .i64 n] w fun e w' => e = .returned (.int .i64 (codeOf n)) ∧ w = w' := by
  by_cases h0 : n < 0
  · have HC := Lib.hid (show codeOf n = -1 by unfold codeOf; rw [if_pos (.inl h0)])
    go_enter Tryd.func10, Tryd.ntmps10
    go_wp2
    go_ret
    exact ⟨ret_int HC.out.symm, rfl⟩
  · by_cases h1 : 21 < n
    · have HC := Lib.hid (show codeOf n = -1 by unfold codeOf; rw [if_pos (.inr h1)])
      have h2 : (0 : Int) ≤ n := by omega
      go_enter Tryd.func10, Tryd.ntmps10
      go_wp2
      go_ret
      exact ⟨ret_int HC.out.symm, rfl⟩
    · have HC := Lib.hid (show codeOf n = n by unfold codeOf; rw [if_neg (by omega)])
      have h2 : (0 : Int) ≤ n := by omega
      have h3 : decide ((21 : Int) < n) = false := by simp; omega
      go_enter Tryd.func10, Tryd.ntmps10
      go_wp2
      go_ret
      exact ⟨ret_int HC.out.symm, rfl⟩
/-- The law's error: nil for 0, else one of its number in the links of the list. -/
def Made (A : Nat → Addr) (n : Int) (L : Nat → Bool × Int) (len : Nat) (w : World) (v : Value) : Prop :=
  (n = 0 ∧ v = .nilIface) ∨ (n ≠ 0 ∧ ∃ l, ErrIn A w v (codeOf n) l ∧ ∀ k, toldOf k l = lastN k L len)
theorem linked_plain {a : Addr} {L : Nat → Bool × Int} {m : Nat} {w : World} {v : Value} {w' : World} (h : Linked a L m [] w v w') : ∃ l, Wrapped w' (.iface 63 (.pointer (some a))) l v ∧ Below w.heap.size w w' ∧ ∀ k, toldOf k l = lastN k L m := by
  obtain ⟨l, hw, hb, hf⟩ := h
  refine ⟨l, hw, hb, fun k => ?_⟩
  have := hf k
  unfold toldOf
  rw [this]
  cases lastN k L m <;> rfl
end Go.Proofs.YtnhligchgcjklaaDoor
