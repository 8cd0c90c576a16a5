/- Links that come in as a list; the last of a kind; At, In and the law's wrapping. -/
import Derived.Test.YtnhligchgcjklaaDoorErPlace
import Derived.Test.YtnhligchgcjklaaDoorErCells
import Derived.Deep.QuietTactic
import Derived.BigQuiet
namespace Go.Proofs.YtnhligchgcjklaaDoor
open Go.RowKit Go.Extern.Stop Go.Stop Go.Extern
/-- A list of links in memory. -/
def LinksAt (w : World) (p : Option Addr) (len : Nat) (L : Nat → Bool × Int) : Prop :=
  ∀ i, i < len → ∃ b o, p = some ⟨b, o, none⟩ ∧ w.cell? ⟨b, o + i * 2, none⟩ = some (.bool (L i).1) ∧ w.cell? ⟨b, o + i * 2 + 1, none⟩ = some (.int .i64 (L i).2)
theorem LinksAt.later {w w' : World} {p : Option Addr} {len : Nat} {L : Nat → Bool × Int} (h : LinksAt w p len L) (hb : Below w.heap.size w w') : LinksAt w' p len L := by
  intro i hi
  obtain ⟨b, o, e, h0, h1⟩ := h i hi
  exact ⟨b, o, e, (hb.cell (p := ⟨b, _, none⟩) (block_lt_of_cell h0)).trans h0, (hb.cell (p := ⟨b, _, none⟩) (block_lt_of_cell h1)).trans h1⟩
/-- The last of a kind among the first m. -/
def lastN (k : Bool) (L : Nat → Bool × Int) : Nat → Option Int
  | 0 => none
  | m + 1 => if (L m).1 = k then some (L m).2 else lastN k L m
def numO (o : Option Int) : Int := match o with | some x => x | none => 0
def hasO (o : Option Int) : Bool := match o with | some _ => true | none => false
set_option maxHeartbeats 2000000 in
theorem last_any (p : Option Addr) (len cap : Nat) (L : Nat → Bool × Int) (k : Bool) (hlen : len ≤ 9223372036854775807) (w : World) (hL : LinksAt w p len L) :
    Calls Tryd.prog 16 #[.slice p len cap, .bool k] w fun e w' => e = .returned (.tuple #[.int .i64 (numO (lastN k L len)), .bool (hasO (lastN k L len))]) ∧ w = w' := by
  go_enter Tryd.func16, Tryd.ntmps16
  go_wp2
  go_loop [6] (fun i => ∃ m : Nat, m ≤ len ∧ i = .int .i64 ((m : Int) - 1) ∧ lastN k L m = lastN k L len) (fun i => ((intOf i) + 1).toNat)
  case atStart => exact ⟨len, Nat.le_refl _, rfl, rfl⟩
  case round =>
    obtain ⟨m, hm, rfl, hl⟩ := hrel
    cases m with
    | zero =>
      have HL := Lib.hid (show lastN k L len = none from hl.symm)
      clear hl
      go_wp2
      go_ret2
      exact ⟨by rw [HL.out]; rfl, rfl⟩
    | succ m =>
      have hv : (((m + 1 : Nat) : Int) - 1) = (m : Int) := by omega
      rw [hv]
      obtain ⟨b, o, rfl, c0, c1⟩ := hL m (by omega)
      have hs : lastN k L (m + 1) = if (L m).1 = k then some (L m).2 else lastN k L m := rfl
      rw [hs] at hl
      generalize L m = x at c0 c1 hl
      obtain ⟨xk, xn⟩ := x
      simp only at c0 c1 hl
      clear hs hL hv
      by_cases hk : xk = k
      · subst hk
        rw [if_pos rfl] at hl
        have HL := Lib.hid hl.symm
        clear hl
        cases xk
        all_goals
          go_wp2
          go_ret2
          exact ⟨by rw [HL.out]; rfl, rfl⟩
      · rw [if_neg hk] at hl
        have HL := Lib.hid hl
        clear hl
        cases xk <;> cases k <;> first | (exact absurd rfl hk) | skip
        all_goals
          clear hk
          go_wp2
          go_round
          case rel => exact ⟨m, by omega, by go_num, HL.out⟩
          case measure => simp [intOf]
/-- An error of a kind that is new, around another one. -/
def NewLink (T : TypeId) (n : Int) (v : Value) (w : World) (e : Ending) (w' : World) : Prop :=
  ∃ p, e = .returned (.iface T (.pointer (some ⟨p, 0, none⟩))) ∧ w.heap.size ≤ p ∧ Below w.heap.size w w' ∧ w'.cell? ⟨p, 0, none⟩ = some (.int .i64 n) ∧ w'.cell? ⟨p, 1, none⟩ = some v
theorem at_any (n : Int) (t : TypeId) (q : Value) (w : World) : Calls Tryd.prog 20 #[.int .i64 n, .iface t q] w (NewLink 49 n (.iface t q) w) := by
  go_enter Tryd.func20, Tryd.ntmps20
  go_wp2
  go_ret
  exact ⟨w.heap.size, rfl, Nat.le_refl _, (Below.refl _ _).alloc (Nat.le_refl _) _, by rw [cell_new]; rfl, by rw [cell_new]; rfl⟩
theorem at_nil (n : Int) (w : World) : Calls Tryd.prog 20 #[.int .i64 n, .nilIface] w fun e w' => e = .returned .nilIface ∧ w = w' := by
  go_enter Tryd.func20, Tryd.ntmps20
  go_wp2
  go_ret
  exact ⟨rfl, rfl⟩
theorem in_any (n : Int) (t : TypeId) (q : Value) (w : World) : Calls Tryd.prog 21 #[.int .i64 n, .iface t q] w (NewLink 54 n (.iface t q) w) := by
  go_enter Tryd.func21, Tryd.ntmps21
  go_wp2
  go_ret
  exact ⟨w.heap.size, rfl, Nat.le_refl _, (Below.refl _ _).alloc (Nat.le_refl _) _, by rw [cell_new]; rfl, by rw [cell_new]; rfl⟩
theorem in_nil (n : Int) (w : World) : Calls Tryd.prog 21 #[.int .i64 n, .nilIface] w fun e w' => e = .returned .nilIface ∧ w = w' := by
  go_enter Tryd.func21, Tryd.ntmps21
  go_wp2
  go_ret
  exact ⟨rfl, rfl⟩
def orO (a b : Option Int) : Option Int := match a with | some x => some x | none => b
theorem NewLink.fault {n : Int} {v base : Value} {l : List (Bool × Int × Nat)} {w : World} {e : Ending} {w' : World} (h : NewLink 49 n v w e w') (hw : Wrapped w base l v) :
    ∃ p, e = .returned (.iface 49 (.pointer (some ⟨p, 0, none⟩))) ∧ Below w.heap.size w w' ∧ Wrapped w' base ((false, n, p) :: l) (.iface 49 (.pointer (some ⟨p, 0, none⟩))) := by
  obtain ⟨p, rfl, _, hb, h0, h1⟩ := h
  exact ⟨p, rfl, hb, .fault n p h0 h1 (hw.later hb)⟩
theorem NewLink.listed {n : Int} {v base : Value} {l : List (Bool × Int × Nat)} {w : World} {e : Ending} {w' : World} (h : NewLink 54 n v w e w') (hw : Wrapped w base l v) :
    ∃ p, e = .returned (.iface 54 (.pointer (some ⟨p, 0, none⟩))) ∧ Below w.heap.size w w' ∧ Wrapped w' base ((true, n, p) :: l) (.iface 54 (.pointer (some ⟨p, 0, none⟩))) := by
  obtain ⟨p, rfl, _, hb, h0, h1⟩ := h
  exact ⟨p, rfl, hb, .listed n p h0 h1 (hw.later hb)⟩
/-- What links leave of an error. -/
def Linked (a : Addr) (L : Nat → Bool × Int) (m : Nat) (l0 : List (Bool × Int × Nat)) (w : World) (v : Value) (w' : World) : Prop :=
  ∃ l, Wrapped w' (.iface 63 (.pointer (some a))) l v ∧ Below w.heap.size w w' ∧ ∀ k, (firstOf k l).map (·.1) = orO (lastN k L m) ((firstOf k l0).map (·.1))
theorem Linked.next {a : Addr} {L : Nat → Bool × Int} {m : Nat} {l0 l : List (Bool × Int × Nat)} {w w' : World} {v : Value} {p : Nat} {kx : Bool} {nx : Int} (hL : L m = (kx, nx)) (h : ∀ k, (firstOf k l).map (·.1) = orO (lastN k L m) ((firstOf k l0).map (·.1)))
    (hw : Wrapped w' (.iface 63 (.pointer (some a))) ((kx, nx, p) :: l) v) (hb : Below w.heap.size w w') : Linked a L (m + 1) l0 w v w' := by
  refine ⟨_, hw, hb, fun k => ?_⟩
  have := h k
  simp only [firstOf, lastN, hL]
  by_cases e : kx = k
  · simp [e, orO]
  · rw [if_neg e, if_neg e]; exact this
set_option maxHeartbeats 2000000 in
theorem wrapped_any (a : Addr) (l0 : List (Bool × Int × Nat)) (v : Value) (p : Option Addr) (len cap : Nat) (L : Nat → Bool × Int) (hlen : len ≤ 9223372036854775807) (w : World) (hL : LinksAt w p len L) (hw : Wrapped w (.iface 63 (.pointer (some a))) l0 v) :
    Calls Tryd.prog 8 #[v, .slice p len cap] w fun e w' => ∃ v', e = .returned v' ∧ Linked a L len l0 w v' w' := by
  have H0 := Lib.hid (show Linked a L 0 l0 w v w from ⟨l0, hw, Below.refl _ _, fun k => rfl⟩)
  have HL := Lib.hid hL
  clear hL hw
  go_enter Tryd.func8, Tryd.ntmps8
  go_wp2
  go_loopw [9, 0] (fun i v' wr => ∃ m : Nat, m ≤ len ∧ i = .int .i64 m ∧ Linked a L m l0 w v' wr) (fun i _ _ => len - (intOf i).toNat)
  case atStart => exact ⟨0, Nat.zero_le _, rfl, H0.out⟩
  case round =>
    obtain ⟨m, hm, rfl, l, hwr, hb, hf⟩ := hrel
    by_cases hlt : m < len
    · obtain ⟨g, o, rfl, c0, c1⟩ := HL.out.later hb m hlt
      obtain ⟨t, q, rfl⟩ := hwr.iface
      have hx : L m = ((L m).1, (L m).2) := rfl
      generalize (L m).1 = xk at *
      generalize (L m).2 = xn at *
      have HX := Lib.hid hx; have HF := Lib.hid hf
      have HB := Lib.hid (hb.alloc hb.size (.cells #[.bool xk, .int .i64 xn] 39)); have HW := Lib.hid (hwr.later ((Below.refl wr.heap.size wr).alloc (Nat.le_refl _) (.cells #[.bool xk, .int .i64 xn] 39)))
      clear hx hf hb hwr H0
      cases xk with
      | true =>
        go_wp2_with fail
        refine (in_any xn t q _).mono ?_
        intro e w2 he
        obtain ⟨p2, rfl, hb2, hw2⟩ := he.listed HW.out
        have HR := Lib.hid (Linked.next (l0 := l0) HX.out HF.out hw2 (HB.out.trans (hb2.mono HB.out.size)))
        clear he hb2 hw2 HW HB
        go_wp2
        exact ⟨⟨m + 1, by omega, by go_num, HR.out⟩, by simp [intOf]; omega⟩
      | false =>
        go_wp2_with fail
        refine (at_any xn t q _).mono ?_
        intro e w2 he
        obtain ⟨p2, rfl, hb2, hw2⟩ := he.fault HW.out
        have HR := Lib.hid (Linked.next (l0 := l0) HX.out HF.out hw2 (HB.out.trans (hb2.mono HB.out.size)))
        clear he hb2 hw2 HW HB
        go_wp2
        exact ⟨⟨m + 1, by omega, by go_num, HR.out⟩, by simp [intOf]; omega⟩
    · obtain rfl : m = len := by omega
      have HR := Lib.hid (show Linked a L m l0 w _ wr from ⟨l, hwr, hb, hf⟩)
      clear hwr hb hf
      go_wp2
      go_ret
      exact ⟨_, rfl, HR.out⟩
theorem wrapped_nil (p : Option Addr) (len cap : Nat) (L : Nat → Bool × Int) (hlen : len ≤ 9223372036854775807) (w : World) (hL : LinksAt w p len L) :
    Calls Tryd.prog 8 #[.nilIface, .slice p len cap] w fun e w' => e = .returned .nilIface ∧ Below w.heap.size w w' := by
  have HL := Lib.hid hL
  clear hL
  go_enter Tryd.func8, Tryd.ntmps8
  go_wp2
  go_loopw [9, 0] (fun i v' wr => ∃ m : Nat, m ≤ len ∧ i = .int .i64 m ∧ v' = .nilIface ∧ Below w.heap.size w wr) (fun i _ _ => len - (intOf i).toNat)
  case atStart => exact ⟨0, Nat.zero_le _, rfl, rfl, Below.refl _ _⟩
  case round =>
    obtain ⟨m, hm, rfl, rfl, hb⟩ := hrel
    by_cases hlt : m < len
    · obtain ⟨g, o, rfl, c0, c1⟩ := HL.out.later hb m hlt
      generalize (L m).1 = xk at *
      generalize (L m).2 = xn at *
      have HB := Lib.hid (hb.alloc hb.size (.cells #[.bool xk, .int .i64 xn] 39))
      clear hb
      cases xk with
      | true =>
        go_wp2_with fail
        refine (in_nil xn _).mono ?_
        rintro e w' ⟨rfl, rfl⟩
        go_wp2
        exact ⟨⟨m + 1, by omega, by go_num, rfl, HB.out⟩, by simp [intOf]; omega⟩
      | false =>
        go_wp2_with fail
        refine (at_nil xn _).mono ?_
        rintro e w' ⟨rfl, rfl⟩
        go_wp2
        exact ⟨⟨m + 1, by omega, by go_num, rfl, HB.out⟩, by simp [intOf]; omega⟩
    · obtain rfl : m = len := by omega
      have HB := Lib.hid hb
      clear hb
      go_wp2
      go_ret
      exact ⟨rfl, HB.out⟩
end Go.Proofs.YtnhligchgcjklaaDoor
