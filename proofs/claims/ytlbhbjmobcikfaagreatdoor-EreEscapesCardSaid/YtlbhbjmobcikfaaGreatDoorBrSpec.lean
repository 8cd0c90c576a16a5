/- What Read of bracket is to answer, as one word: as the reference reads; an error of its number at its place. -/
import Derived.Test.YtlbhbjmobcikfaaGreatDoorBrRef7
import Derived.Test.YtlbhbjmobcikfaaGreatDoorBrMath2
import Derived.Test.YtlbhbjmobcikfaaGreatDoorErNum
import Derived.Test.YtlbhbjmobcikfaaGreatDoorErPlace
import Derived.Test.YtlbhbjmobcikfaaGreatDoorOcEq
namespace Go.Proofs.YtlbhbjmobcikfaaGreatDoor
open Go.RowKit
/-- v is an error of number c at place p (-1: it tells none). -/
def ErrAt (A : Nat → Addr) (w : World) (v : Value) (c : Nat) (p : Int) : Prop :=
  ∃ k l, k < 21 ∧ c = k + 1 ∧ Wrapped w (.iface 184 (.pointer (some (A k)))) l v ∧ numOf (firstOf false l) = p
theorem ErrAt.later {A : Nat → Addr} {w w' : World} {v : Value} {c : Nat} {p : Int} (h : ErrAt A w v c p) (hb : Below w.heap.size w w') : ErrAt A w' v c p := by
  obtain ⟨k, l, hk, hc, hw, hp⟩ := h; exact ⟨k, l, hk, hc, hw.later hb, hp⟩
theorem ErrAt.iface {A : Nat → Addr} {w : World} {v : Value} {c : Nat} {p : Int} (h : ErrAt A w v c p) : ∃ t q, v = .iface t q := by
  obtain ⟨k, l, hk, hc, hw, hp⟩ := h; exact hw.iface
/-- What Read takes of variables: the sentinels, and a number in the library's MaxLen (the search in a text asks for it). -/
structure BrEnv (w : World) (A : Nat → Addr) : Prop where
  errs : Errs w A
  idx : ∃ m, w.cell? ⟨22, 0, none⟩ = some (.int .i64 m)
theorem BrEnv.below {A : Nat → Addr} {w w' : World} (h : BrEnv w A) (hb : Below w.heap.size w w') : BrEnv w' A := by
  refine ⟨h.errs.below hb, ?_⟩
  obtain ⟨m, hm⟩ := h.idx
  exact ⟨m, (hb.cell (p := ⟨22, 0, none⟩) (block_lt_of_cell hm)).trans hm⟩
theorem ErrAt.num {A : Nat → Addr} {w : World} {v : Value} {c : Nat} {p : Int} (h : ErrAt A w v c p) (hA : BrEnv w A) :
    Calls Tryz.prog 14 #[v] w fun e w' => e = .returned (.int .i64 c) ∧ Below w.heap.size w w' := by
  obtain ⟨k, l, hk, rfl, hw, hp⟩ := h
  exact (num_any A k l.length v w hA.errs hk hw.chain).mono fun _ _ h => ⟨by rw [h.1]; push_cast; rfl, h.2⟩
theorem ErrAt.place {A : Nat → Addr} {w : World} {v : Value} {c : Nat} {p : Int} (h : ErrAt A w v c p) (hT : ErrType w) :
    Calls Tryz.prog 16 #[v] w fun e w' => e = .returned (.int .i64 p) ∧ Below w.heap.size w w' := by
  obtain ⟨k, l, hk, rfl, hw, rfl⟩ := h
  exact numplace_any (A k) l v w hw hT
/-- Bits of the flags. -/
def icB (fl : Int) : Bool := (BitVec.ofInt 64 fl).getLsbD 1
def nlB (fl : Int) : Bool := (BitVec.ofInt 64 fl).getLsbD 2
/-- What Read ends with. -/
def ReadEnd (A : Nat → Addr) (R : Br.Ans) (w : World) (e : Ending) (w' : World) : Prop :=
  (match R with
  | .ok P j => e = .returned (.tuple #[(.agg #[.int .u64 (Oc.U (Oc.mk P 0)), .int .u64 (Oc.U (Oc.mk P 1)), .int .u64 (Oc.U (Oc.mk P 2)), .int .u64 (Oc.U (Oc.mk P 3))]), .int .i64 j, .nilIface])
  | .err c p => ∃ v, e = .returned (.tuple #[.agg #[.int .u64 0, .int .u64 0, .int .u64 0, .int .u64 0], .int .i64 0, v]) ∧ ErrAt A w' v c p) ∧ Below w.heap.size w w'
/-- What chapter 5 promises of Read, as a contract. -/
structure BrDoes : Prop where
  read : ∀ A s at_ fl w, BrEnv w A → s.size ≤ 4294967280 → IntKind.i64.min ≤ at_ → at_ ≤ IntKind.i64.max → Calls Tryz.prog 146 #[.string s, .int .i64 at_, .int .i64 fl] w (ReadEnd A (rdI s at_ (icB fl) (nlB fl)) w)
theorem ReadEnd.ok {A : Nat → Addr} {R : Br.Ans} {w : World} {e : Ending} {w' : World} (h : ReadEnd A R w e w') {P : Nat → Bool} {j : Nat} (hR : R = .ok P j) :
    e = .returned (.tuple #[(.agg #[.int .u64 (Oc.U (Oc.mk P 0)), .int .u64 (Oc.U (Oc.mk P 1)), .int .u64 (Oc.U (Oc.mk P 2)), .int .u64 (Oc.U (Oc.mk P 3))]), .int .i64 j, .nilIface]) ∧ Below w.heap.size w w' := by subst hR; exact h
theorem ReadEnd.err {A : Nat → Addr} {R : Br.Ans} {w : World} {e : Ending} {w' : World} (h : ReadEnd A R w e w') {c : Nat} {p : Int} (hR : R = .err c p) :
    ∃ v, e = .returned (.tuple #[.agg #[.int .u64 0, .int .u64 0, .int .u64 0, .int .u64 0], .int .i64 0, v]) ∧ ErrAt A w' v c p ∧ Below w.heap.size w w' := by
  subst hR; obtain ⟨⟨v, h1, h2⟩, h3⟩ := h; exact ⟨v, h1, h2, h3⟩
theorem lo64 {n : Int} (h : (Lit.int .i64 n).wf = true) : IntKind.i64.min ≤ n := by
  simp only [Lit.wf, Bool.and_eq_true, decide_eq_true_eq] at h; exact h.1
theorem hi64 {n : Int} (h : (Lit.int .i64 n).wf = true) : n ≤ IntKind.i64.max := by
  simp only [Lit.wf, Bool.and_eq_true, decide_eq_true_eq] at h; exact h.2
/-- The two bits that are looked at. -/
theorem and6 (fl : Int) : bits .and .i64 fl 6 = flI (icB fl) (nlB fl) := by
  show IntKind.i64.wrap ((BitVec.ofInt 64 fl &&& BitVec.ofInt 64 6).toNat : Int) = _
  unfold icB nlB
  generalize BitVec.ofInt 64 fl = x
  have h6 : ∀ i, i < 64 → i ≠ 1 → i ≠ 2 → (6#64).getLsbD i = false := by decide
  have e : x &&& BitVec.ofInt 64 6 = (if x.getLsbD 1 then 2#64 else 0#64) ||| (if x.getLsbD 2 then 4#64 else 0#64) := by
    apply BitVec.eq_of_getLsbD_eq
    intro i hi
    rw [show BitVec.ofInt 64 6 = 6#64 by decide, BitVec.getLsbD_and, BitVec.getLsbD_or]
    by_cases h1 : i = 1
    · subst h1; cases x.getLsbD 1 <;> cases x.getLsbD 2 <;> decide
    · by_cases h2 : i = 2
      · subst h2; cases x.getLsbD 1 <;> cases x.getLsbD 2 <;> decide
      · rw [h6 i hi h1 h2]
        have a1 : ∀ i, i < 64 → i ≠ 1 → (2#64).getLsbD i = false := by decide
        have a2 : ∀ i, i < 64 → i ≠ 2 → (4#64).getLsbD i = false := by decide
        cases x.getLsbD 1 <;> cases x.getLsbD 2 <;> simp [a1 i hi h1, a2 i hi h2]
  rw [e]
  cases x.getLsbD 1 <;> cases x.getLsbD 2 <;> decide
end Go.Proofs.YtlbhbjmobcikfaaGreatDoor
