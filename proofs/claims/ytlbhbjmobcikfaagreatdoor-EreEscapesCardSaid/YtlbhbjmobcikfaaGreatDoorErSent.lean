/- What the listed sentinels give: each variable holds a pointer to a text of its own. -/
import Derived.Test.YtlbhbjmobcikfaaGreatDoorRows
import Derived.Test.YtlbhbjmobcikfaaGreatDoorErIs
import Derived.ProofKit
import Derived.LaidMore
import Derived.LaidHandle
import Derived.OpenShut
import Derived.MakeChecks
import Derived.Stop.LaidErr
namespace Go.Proofs.YtlbhbjmobcikfaaGreatDoor
open Go.ChangeShapes Go.WideShapes Go.ChangeAt Go.RowKit
/-- A sentinel's variable g: the pointer a, behind it the text t. -/
def Sent (W : World) (g : Nat) (t : List UInt8) (a : Addr) : Prop :=
  W.cell? ⟨g, 0, none⟩ = some (.iface 184 (.pointer (some a))) ∧ g < W.heap.size ∧ a.block < W.heap.size ∧ (∃ s, W.cell? a = some (.string s) ∧ s.data.toList = t ∧ s.size ≤ maxLen) ∧ ∃ c ty, W.heap[a.block]? = some (.cells c ty (0, 0))
theorem Sent.below {W W' : World} {g : Nat} {t : List UInt8} {a : Addr} (h : Sent W g t a) (hb : Below W.heap.size W W') : Sent W' g t a := by
  obtain ⟨h1, h2, h3, ⟨s, h4, h5, h6⟩, c, ty, h7⟩ := h
  exact ⟨(hb.cell (p := ⟨g, 0, none⟩) h2).trans h1, Nat.lt_of_lt_of_le h2 hb.size, Nat.lt_of_lt_of_le h3 hb.size, ⟨s, (hb.cell h3).trans h4, h5, h6⟩, c, ty, (hb.block _ h3).trans h7⟩
theorem Sent.apart {W : World} {g g' : Nat} {t t' : List UInt8} {a a' : Addr} (h : Sent W g t a) (h' : Sent W g' t' a') (hne : t ≠ t') : a ≠ a' := by
  rintro rfl
  obtain ⟨-, -, -, ⟨s, h4, h5, -⟩, -⟩ := h
  obtain ⟨-, -, -, ⟨s', h4', h5', -⟩, -⟩ := h'
  rw [h4] at h4'
  simp only [Option.some.injEq, Value.string.injEq] at h4'
  subst h4'
  exact hne (h5.symm.trans h5')
def sentDatum (t : List UInt8) : DataW Unit := .iface "*errors.errorString" (.ptr (.agg [.lit (.string t)]))
theorem Tryz.starE : "*" ++ "errors.errorString" = "*errors.errorString" := by decide
theorem Tryz.rowE (u : TypeId) (h : Tryz.prog.typeName? 3 u = some "*errors.errorString") : u = 184 :=
  typeName_ptr_named (nm := "errors.errorString") (by rw [Tryz.starE]; kernel_rfl) (by kernel_rfl) (by decide) u (by rw [Tryz.starE]; exact h)
theorem Tryz.cellsE : Tryz.prog.cellsOf 205 = 1 := by kernel_rfl
theorem Tryz.cellsStr : Tryz.prog.cellsOf 9 = 1 := by kernel_rfl
theorem block_lt {W : World} {b : Nat} {o : Obj} (h : W.heap[b]? = some o) : b < W.heap.size := (Array.getElem?_eq_some_iff.1 h).1
theorem sent_head_any {P : Program} {n nm : String} {text : List UInt8} {r : List (String × DataW Unit)} {W : World} {g : Nat} {ti tp te ts : TypeId} {ms : Array (String × TypeId)} {f : Field}
    (h : laidMet P ((n, .iface nm (.ptr (.agg [.lit (.string text)]))) :: r) W)
    (hg : P.globalNamed n = some g) (ht : (P.globals[g]?).map (·.type) = some ti) (hi : P.underlying ti = some (.interface ms)) (hrow : ∀ u, P.typeName? 3 u = some nm → u = tp)
    (hp : P.underlying tp = some (.pointer te)) (he : P.underlying te = some (.struct #[f])) (hft : f.type = ts) (hfo : f.offset = 0) (hs : P.underlying ts = some .string) (hc : P.cellsOf te = 1) (hcs : P.cellsOf ts = 1) :
    ∃ (a : Addr) (s : ByteArray) (c0 c1 : Array Value) (t0 t1 : TypeId), W.cell? ⟨g, 0, none⟩ = some (.iface tp (.pointer (some a))) ∧ W.cell? a = some (.string s) ∧ s.data.toList = text ∧ s.size ≤ maxLen ∧ W.heap[a.block]? = some (.cells c0 t0 (0, 0)) ∧ W.heap[g]? = some (.cells c1 t1 (0, 0)) := by
  obtain ⟨ps, ⟨g0, t0, cs0, f0, p0, q0, hg0, ht0, hv0, hd0, _, e0⟩, _, hrows⟩ := h
  obtain rfl := Option.some.inj (hg.symm.trans hg0)
  obtain rfl := Option.some.inj (ht.symm.trans ht0)
  subst e0
  obtain ⟨l0⟩ := cs0
  have ok0 : ∀ u v, l0 = [.iface u v] → Value.okWide P W .any 0 u v := fun u v e => by
    subst e
    exact (hrows g 0 (by simp [MemPlace.row])).2 u v (by simpa using World.var?_cell hg0 hv0 0)
  obtain ⟨a0, s0, rfl, hc0, hs0, hz0, rfl⟩ := errorString_of_trod hi hrow hp he hft hfo hs hc hcs hd0 ok0
  obtain ⟨c0, t1, hb0⟩ := (hrows a0.block a0.off (by simp [MemPlace.row])).1
  obtain ⟨c1, t2, hb1⟩ := (hrows g 0 (by simp [MemPlace.row])).1
  exact ⟨a0, s0, c0, c1, t1, t2, by simpa using World.var?_cell hg0 hv0 0, hc0, hs0, hz0, hb0, hb1⟩
theorem sent_head {n : String} {t : List UInt8} {r : List (String × DataW Unit)} {W : World} {g : Nat} (h : laidMet Tryz.prog ((n, sentDatum t) :: r) W) (hg : Tryz.prog.globalNamed n = some g) (ht : (Tryz.prog.globals[g]?).map (·.type) = some 30) :
    ∃ a, Sent W g t a := by
  obtain ⟨a, s, c0, c1, t0, t1, h1, h2, h3, h4, h5, h6⟩ := sent_head_any h hg ht Tryz.underlying30 Tryz.rowE Tryz.underlying184 Tryz.underlying205 rfl rfl Tryz.underlying9 Tryz.cellsE Tryz.cellsStr
  exact ⟨a, h1, block_lt h6, block_lt h5, ⟨s, h2, h3, h4⟩, c0, t0, h5⟩
theorem sent_of : ∀ {l : List (String × DataW Unit)} {W : World}, laidMet Tryz.prog l W → ∀ {n t g}, (n, sentDatum t) ∈ l → Tryz.prog.globalNamed n = some g → (Tryz.prog.globals[g]?).map (·.type) = some 30 → ∃ a, Sent W g t a
  | [], _, _, _, _, _, hm, _, _ => by cases hm
  | x :: l, W, h, n, t, g, hm, hg, ht => by
    rcases List.mem_cons.1 hm with e | hm
    · subst e; exact sent_head h hg ht
    · exact sent_of h.tail hm hg ht
end Go.Proofs.YtlbhbjmobcikfaaGreatDoor
