/- Links, and a list of links, as they come in among the arguments. -/
import Derived.Test.YtnhligchgcjklaaDoorFaTell
import Derived.ProofKit
import Derived.OpenShut
import Derived.ChangeOld
import Derived.ChangeSame
import Derived.Deep.Slices
import Derived.Deep.MidRow
import Derived.Lib.SmallJoins
namespace Go.Proofs.YtnhligchgcjklaaDoor
open Go.ChangeShapes Go.WideShapes Go.ChangeAt Go.RowKit
theorem Tryd.cellsLink : Tryd.prog.cellsOf 39 = 2 := by kernel_rfl
theorem Tryd.cellsBool : Tryd.prog.cellsOf 4 = 1 := by kernel_rfl
theorem Tryd.cellsInt : Tryd.prog.cellsOf 3 = 1 := by kernel_rfl
theorem i64_of {n : Int} (h : (Lit.int .i64 n).wf = true) : isI64 n := by
  simp only [Lit.wf, IntKind.min, IntKind.max, IntKind.signed, IntKind.bits, Bool.and_eq_true] at h
  have h1 := h.1; have h2 := h.2
  simp at h1 h2
  unfold isI64; omega
/-- Two cells that read as a link. -/
theorem open_pair {H : Type} {enc : TypeId × Value → H} {w : World} {base : Nat} {spare : Nat → Bool} {held : Bool} {fuel : Nat} {c0 c1 : Value} {x : DataW H × List MemPlace}
    (h : DataW.trod enc Tryd.prog w base spare held fuel 39 [c0, c1] = some x) : ∃ (k : Bool) (n : Int), c0 = .bool k ∧ c1 = .int .i64 n ∧ isI64 n := by
  obtain ⟨y0, y1, m, _, _, h0, h1⟩ := trod_struct2 Tryd.underlying39 h
  simp only [Tryd.cellsBool, Tryd.cellsInt, List.drop_zero, List.take_succ_cons, List.take_zero, List.drop_succ_cons] at h0 h1
  obtain ⟨k, e0, -⟩ := DataW.trod_bool Tryd.underlying4 h0
  obtain ⟨n, e1, -, wf⟩ := DataW.trod_int Tryd.underlying3 h1
  simp only [List.cons.injEq, and_true] at e0 e1
  exact ⟨k, n, e0, e1, i64_of wf⟩
set_option maxRecDepth 100000 in
/-- A link among the arguments. -/
theorem open_link {H : Type} {enc : TypeId × Value → H} {w : World} {base b0 : Nat} {spare : Nat → Bool} {held : Bool} {v : Value} {y : DataW H} {ps : List MemPlace} {r : Reach}
    (hv : Value.okWide Tryd.prog w r b0 39 v) (h : DataW.Trod enc Tryd.prog w base spare held 39 v y ps) : ∃ (k : Bool) (n : Int), v = .agg #[.bool k, .int .i64 n] ∧ isI64 n := by
  unfold Value.okWide at hv
  rw [Tryd.underlying39] at hv
  obtain ⟨cs, rfl, hsz, -⟩ := hv
  rw [Tryd.cellsLink] at hsz
  obtain ⟨c0, c1, rfl⟩ : ∃ c0 c1, cs = #[c0, c1] := by
    obtain ⟨l⟩ := cs
    match l, hsz with
    | [c0, c1], _ => exact ⟨c0, c1, rfl⟩
  obtain ⟨fuel, hf⟩ := h
  obtain ⟨k, n, rfl, rfl, hn⟩ := open_pair hf
  exact ⟨k, n, rfl, hn⟩
set_option maxRecDepth 100000 in
/-- A list of links among the arguments. -/
theorem open_links {H : Type} {enc : TypeId × Value → H} {w : World} {base : Nat} {spare : Nat → Bool} {held : Bool} {p : Option Addr} {len cap : Nat} {y : DataW H} {ps : List MemPlace}
    (h : DataW.Trod enc Tryd.prog w base spare held 22 (.slice p len cap) y ps) : ∃ L : Nat → Bool × Int, LinksAt w p len L ∧ (∀ i, isI64 (L i).2) ∧ len ≤ maxLen := by
  obtain ⟨fuel, hf⟩ := h
  rcases Deep.open_slice Tryd.underlying22 hf with ⟨hcs, _⟩ | ⟨a, l, c, m, n, D, Pl, hcs, _, hl, hm, hmm, _, hall⟩
  · simp [Value.cells] at hcs
    obtain ⟨rfl, rfl, rfl⟩ := hcs
    exact ⟨fun _ => (false, 0), (fun i hi => by omega), (fun i => by unfold isI64; simp), by unfold maxLen; omega⟩
  · simp [Value.cells] at hcs
    obtain ⟨rfl, rfl, rfl⟩ := hcs
    have hlm : len ≤ m := by rw [hmm]; split <;> omega
    have key : ∀ i, i < len → ∃ x : Bool × Int, w.cell? ((a.add (i * 2)).add 0) = some (.bool x.1) ∧ w.cell? ((a.add (i * 2)).add 1) = some (.int .i64 x.2) ∧ isI64 x.2 := by
      intro i hi
      obtain ⟨cs', hc, hr⟩ := hall i (by omega)
      rw [Tryd.cellsLink] at hc
      unfold World.cells? at hc
      split at hc
      · rw [show List.range 2 = [0, 1] from rfl] at hc
        simp only [List.mapM_cons, List.mapM_nil, Option.bind_eq_bind, Option.bind_eq_some_iff, Option.pure_def, Option.some.injEq] at hc
        obtain ⟨v0, g0, t0, ⟨v1, g1, t1, rfl, rfl⟩, rfl⟩ := hc
        obtain ⟨k, n, rfl, rfl, hn⟩ := open_pair hr
        exact ⟨(k, n), g0, g1, hn⟩
      · cases hc
    obtain ⟨f, hf⟩ := Deep.choose_lt key
    refine ⟨fun i => if i < len then f i else (false, 0), ?_, ?_, by omega⟩
    · intro i hi
      have hs : a.spot = none := by simpa [Addr.add] using World.cell?_spot (hf 0 (by omega)).1
      obtain ⟨g0, g1, _⟩ := hf i hi
      obtain ⟨b, o, sp⟩ := a
      subst hs
      have e0 : ∀ j, ((⟨b, o, none⟩ : Addr).add (i * 2)).add j = ⟨b, o + i * 2 + j, none⟩ := fun j => by rw [Addr.add_mid, Addr.add_mid]
      rw [e0] at g0 g1
      rw [Nat.add_zero] at g0
      simp only [if_pos hi]
      exact ⟨b, o, rfl, g0, g1⟩
    · intro i
      by_cases hi : i < len
      · simp only [if_pos hi]; exact (hf i hi).2.2
      · simp only [if_neg hi]; unfold isI64; simp
theorem Tryd.own : ownKnob Tryd.prog.godebug = none := by kernel_rfl
theorem Tryd.laidOut : laidOutB Tryd.prog = true := by kernel_rfl
end Go.Proofs.YtnhligchgcjklaaDoor
