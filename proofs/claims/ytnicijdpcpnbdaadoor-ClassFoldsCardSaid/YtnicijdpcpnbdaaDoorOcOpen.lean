/- A set of bytes, and a list of sets, as they come in among the arguments. -/
import Derived.Test.YtnicijdpcpnbdaaDoorOcWalks2
import Derived.ProofKit
import Derived.OpenShut
import Derived.ChangeOld
import Derived.Deep.Slices
import Derived.Laws.IdiomArrays
import Derived.Lib.SmallJoins
namespace Go.Proofs.YtnicijdpcpnbdaaDoor
open Go.ChangeShapes Go.WideShapes Go.ChangeAt Go.RowKit
theorem Tryd.cellsSet : Tryd.prog.cellsOf 25 = 4 := by kernel_rfl
theorem Tryd.cellsU64 : Tryd.prog.cellsOf 23 = 1 := by kernel_rfl
theorem word_of {n : Int} (h : (Lit.int .u64 n).wf = true) : ∃ x : BitVec 64, n = Oc.U x := by
  simp only [Lit.wf, IntKind.min, IntKind.max, IntKind.signed, IntKind.bits, Bool.and_eq_true] at h
  refine ⟨BitVec.ofInt 64 n, ?_⟩
  unfold Oc.U; rw [BitVec.toNat_ofInt]
  have h1 := h.1; have h2 := h.2
  simp at h1 h2
  omega
/-- Four cells that read as a set. -/
theorem open_words {H : Type} {enc : TypeId × Value → H} {w : World} {base : Nat} {spare : Nat → Bool} {held : Bool} {fuel : Nat} {c0 c1 c2 c3 : Value} {x : DataW H × List MemPlace}
    (h : DataW.trod enc Tryd.prog w base spare held fuel 25 [c0, c1, c2, c3] = some x) : ∃ a b c d : BitVec 64, c0 = .int .u64 (Oc.U a) ∧ c1 = .int .u64 (Oc.U b) ∧ c2 = .int .u64 (Oc.U c) ∧ c3 = .int .u64 (Oc.U d) := by
  obtain ⟨y0, y1, y2, y3, n, _, h0, h1, h2, h3⟩ := trod_array4 Tryd.underlying25 Tryd.cellsU64 h
  obtain ⟨n0, e0, -, w0⟩ := DataW.trod_int Tryd.underlying23 h0
  obtain ⟨n1, e1, -, w1⟩ := DataW.trod_int Tryd.underlying23 h1
  obtain ⟨n2, e2, -, w2⟩ := DataW.trod_int Tryd.underlying23 h2
  obtain ⟨n3, e3, -, w3⟩ := DataW.trod_int Tryd.underlying23 h3
  obtain ⟨a, rfl⟩ := word_of w0
  obtain ⟨b, rfl⟩ := word_of w1
  obtain ⟨c, rfl⟩ := word_of w2
  obtain ⟨d, rfl⟩ := word_of w3
  simp only [List.cons.injEq, and_true] at e0 e1 e2 e3
  exact ⟨a, b, c, d, e0, e1, e2, e3⟩
set_option maxRecDepth 100000 in
/-- A set among the arguments. -/
theorem open_set {H : Type} {enc : TypeId × Value → H} {w : World} {base b0 : Nat} {spare : Nat → Bool} {held : Bool} {v : Value} {y : DataW H} {ps : List MemPlace} {r : Reach}
    (hv : Value.okWide Tryd.prog w r b0 25 v) (h : DataW.Trod enc Tryd.prog w base spare held 25 v y ps) : ∃ a b c d : BitVec 64, v = (.agg #[.int .u64 (Oc.U a), .int .u64 (Oc.U b), .int .u64 (Oc.U c), .int .u64 (Oc.U d)]) := by
  unfold Value.okWide at hv
  rw [Tryd.underlying25] at hv
  obtain ⟨cs, rfl, hsz, -⟩ := hv
  rw [Tryd.cellsSet] at hsz
  obtain ⟨c0, c1, c2, c3, rfl⟩ := Joins.array4 hsz
  obtain ⟨fuel, hf⟩ := h
  obtain ⟨a, b, c, d, rfl, rfl, rfl, rfl⟩ := open_words hf
  exact ⟨a, b, c, d, rfl⟩
set_option maxRecDepth 100000 in
/-- A list of sets among the arguments. -/
theorem open_sets {H : Type} {enc : TypeId × Value → H} {w : World} {base : Nat} {spare : Nat → Bool} {held : Bool} {p : Option Addr} {len cap : Nat} {y : DataW H} {ps : List MemPlace}
    (h : DataW.Trod enc Tryd.prog w base spare held 53 (.slice p len cap) y ps) : ∃ A B C D : Nat → BitVec 64, SetsAt w p len A B C D ∧ (p = none → len = 0 ∧ cap = 0) ∧ len ≤ maxLen := by
  obtain ⟨fuel, hf⟩ := h
  rcases Deep.open_slice Tryd.underlying53 hf with ⟨hcs, _⟩ | ⟨a, l, c, m, n, D, Pl, hcs, _, hl, hm, hmm, _, hall⟩
  · simp [Value.cells] at hcs
    obtain ⟨rfl, rfl, rfl⟩ := hcs
    exact ⟨fun _ => 0#64, fun _ => 0#64, fun _ => 0#64, fun _ => 0#64, (fun i hi => by omega), (fun _ => ⟨rfl, rfl⟩), by unfold maxLen; omega⟩
  · simp [Value.cells] at hcs
    obtain ⟨rfl, rfl, rfl⟩ := hcs
    have hlm : len ≤ m := by rw [hmm]; split <;> omega
    have key : ∀ i, i < len → ∃ x : BitVec 64 × BitVec 64 × BitVec 64 × BitVec 64, w.cell? ((a.add (i * 4)).add 0) = some (.int .u64 (Oc.U x.1)) ∧ w.cell? ((a.add (i * 4)).add 1) = some (.int .u64 (Oc.U x.2.1)) ∧
        w.cell? ((a.add (i * 4)).add 2) = some (.int .u64 (Oc.U x.2.2.1)) ∧ w.cell? ((a.add (i * 4)).add 3) = some (.int .u64 (Oc.U x.2.2.2)) := by
      intro i hi
      obtain ⟨cs', hc, hr⟩ := hall i (by omega)
      rw [Tryd.cellsSet] at hc
      unfold World.cells? at hc
      split at hc
      · rw [show List.range 4 = [0, 1, 2, 3] from rfl] at hc
        simp only [List.mapM_cons, List.mapM_nil, Option.bind_eq_bind, Option.bind_eq_some_iff, Option.pure_def, Option.some.injEq] at hc
        obtain ⟨v0, g0, t0, ⟨v1, g1, t1, ⟨v2, g2, t2, ⟨v3, g3, t3, rfl, rfl⟩, rfl⟩, rfl⟩, rfl⟩ := hc
        obtain ⟨x0, x1, x2, x3, rfl, rfl, rfl, rfl⟩ := open_words hr
        exact ⟨(x0, x1, x2, x3), g0, g1, g2, g3⟩
      · cases hc
    obtain ⟨f, hf⟩ := Deep.choose_lt key
    refine ⟨fun i => (f i).1, fun i => (f i).2.1, fun i => (f i).2.2.1, fun i => (f i).2.2.2, ?_, (fun h => by cases h), by omega⟩
    intro i hi
    have hs : a.spot = none := by simpa [Addr.add] using World.cell?_spot (hf 0 (by omega)).1
    obtain ⟨g0, g1, g2, g3⟩ := hf i hi
    obtain ⟨b, o, sp⟩ := a
    subst hs
    rw [Addr.add_mid, Addr.add_mid] at g0 g1 g2 g3
    rw [Nat.add_zero] at g0
    exact ⟨b, o, rfl, block_lt_of_cell g0, g0, g1, g2, g3⟩
theorem Tryd.own : ownKnob Tryd.prog.godebug = none := by kernel_rfl
theorem Tryd.laidOut : laidOutB Tryd.prog = true := by kernel_rfl
end Go.Proofs.YtnicijdpcpnbdaaDoor
