/- Links that come in as a list; the last of a kind; At, In and the law's wrapping. -/
import Derived.Test.YtbpecijdmhablaaDoorErPlace
import Derived.Test.YtbpecijdmhablaaDoorErCells
import Derived.Deep.QuietTactic
import Derived.BigQuiet
namespace Go.Proofs.YtbpecijdmhablaaDoor
open Go.RowKit Go.Extern.Stop Go.Stop Go.Extern
/-- A list of links in memory. -/
def LinksAt (w : World) (p : Option Addr) (len : Nat) (L : Nat → Bool × Int) : Prop :=
  ∀ i, i < len → ∃ b o, p = some ⟨b, o, none⟩ ∧ w.cell? ⟨b, o + i * 2, none⟩ = some (.bool (L i).1) ∧ w.cell? ⟨b, o + i * 2 + 1, none⟩ = some (.int .i64 (L i).2)
theorem LinksAt.later {w w' : World} {p : Option Addr} {len : Nat} {L : Nat → Bool × Int} (h : LinksAt w p len L) (hb : Below w.heap.size w w') : LinksAt w' p len L := by
  intro i hi
  obtain ⟨b, o, e, h0, h1⟩ := h i hi
  exact ⟨b, o, e, (hb.cell (p := ⟨b, _, none⟩) (block_lt_of_cell h0)).trans h0, (hb.cell (p := ⟨b, _, none⟩) (block_lt_of_cell h1)).trans h1⟩
/-- The last of a kind among the first m. -/
def lastN (k : Bool) (L : Nat → Bool × Int) : Nat → Option Int
  | 0 => none
  | m + 1 => if (L m).1 = k then some (L m).2 else lastN k L m
def numO (o : Option Int) : Int := match o with | some x => x | none => 0
def hasO (o : Option Int) : Bool := match o with | some _ => true | none => false
/-- An error of a kind that is new, around another one. -/
def NewLink (T : TypeId) (n : Int) (v : Value) (w : World) (e : Ending) (w' : World) : Prop :=
  ∃ p, e = .returned (.iface T (.pointer (some ⟨p, 0, none⟩))) ∧ w.heap.size ≤ p ∧ Below w.heap.size w w' ∧ w'.cell? ⟨p, 0, none⟩ = some (.int .i64 n) ∧ w'.cell? ⟨p, 1, none⟩ = some v
theorem at_any (n : Int) (t : TypeId) (q : Value) (w : World) : Calls Tryd.prog 51 #[.int .i64 n, .iface t q] w (NewLink 52 n (.iface t q) w) := by
  go_enter Tryd.func51, Tryd.ntmps51
  go_wp2
  go_ret
  exact ⟨w.heap.size, rfl, Nat.le_refl _, (Below.refl _ _).alloc (Nat.le_refl _) _, by rw [cell_new]; rfl, by rw [cell_new]; rfl⟩
theorem at_nil (n : Int) (w : World) : Calls Tryd.prog 51 #[.int .i64 n, .nilIface] w fun e w' => e = .returned .nilIface ∧ w = w' := by
  go_enter Tryd.func51, Tryd.ntmps51
  go_wp2
  go_ret
  exact ⟨rfl, rfl⟩
def orO (a b : Option Int) : Option Int := match a with | some x => some x | none => b
theorem NewLink.fault {n : Int} {v base : Value} {l : List (Bool × Int × Nat)} {w : World} {e : Ending} {w' : World} (h : NewLink 52 n v w e w') (hw : Wrapped w base l v) :
    ∃ p, e = .returned (.iface 52 (.pointer (some ⟨p, 0, none⟩))) ∧ Below w.heap.size w w' ∧ Wrapped w' base ((false, n, p) :: l) (.iface 52 (.pointer (some ⟨p, 0, none⟩))) := by
  obtain ⟨p, rfl, _, hb, h0, h1⟩ := h
  exact ⟨p, rfl, hb, .fault n p h0 h1 (hw.later hb)⟩
/-- What links leave of an error. -/
def Linked (a : Addr) (L : Nat → Bool × Int) (m : Nat) (l0 : List (Bool × Int × Nat)) (w : World) (v : Value) (w' : World) : Prop :=
  ∃ l, Wrapped w' (.iface 115 (.pointer (some a))) l v ∧ Below w.heap.size w w' ∧ ∀ k, (firstOf k l).map (·.1) = orO (lastN k L m) ((firstOf k l0).map (·.1))
theorem Linked.next {a : Addr} {L : Nat → Bool × Int} {m : Nat} {l0 l : List (Bool × Int × Nat)} {w w' : World} {v : Value} {p : Nat} {kx : Bool} {nx : Int} (hL : L m = (kx, nx)) (h : ∀ k, (firstOf k l).map (·.1) = orO (lastN k L m) ((firstOf k l0).map (·.1)))
    (hw : Wrapped w' (.iface 115 (.pointer (some a))) ((kx, nx, p) :: l) v) (hb : Below w.heap.size w w') : Linked a L (m + 1) l0 w v w' := by
  refine ⟨_, hw, hb, fun k => ?_⟩
  have := h k
  simp only [firstOf, lastN, hL]
  by_cases e : kx = k
  · simp [e, orO]
  · rw [if_neg e, if_neg e]; exact this
end Go.Proofs.YtbpecijdmhablaaDoor
