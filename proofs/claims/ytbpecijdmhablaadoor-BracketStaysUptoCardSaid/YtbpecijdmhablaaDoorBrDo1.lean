/- What the small calls of bracket answer: openings, the name's end, an open expression. -/
import Derived.Test.YtbpecijdmhablaaDoorBrSpec
import Derived.Test.YtbpecijdmhablaaDoorBrRef3
import Derived.Test.YtbpecijdmhablaaDoorBrRef4
import Derived.Test.YtbpecijdmhablaaDoorFaLinks
import Derived.Test.YtbpecijdmhablaaDoorShelf
import Derived.Lib.CutLaws
namespace Go.Proofs.YtbpecijdmhablaaDoor
open Go.RowKit
theorem bt_list (s : ByteArray) (i : Nat) : bt s i = (s.data.toList[i]?).elim 256 UInt8.toNat := by
  by_cases h : i < s.size
  · rw [← bt_at h]
    have h' : i < s.data.toList.length := by simpa using h
    rw [List.getElem?_eq_getElem h']; simp [ByteArray.getElem_eq_getElem_data]
  · rw [bt_out (by omega), List.getElem?_eq_none (by simp; show s.data.size ≤ i; have : s.data.size = s.size := rfl; omega)]; rfl
theorem bt_ext (s : ByteArray) (i j : Nat) : bt (s.extract i s.size) j = bt s (i + j) := by
  rw [bt_list, bt_list, Lib.extract_to_end, List.getElem?_drop]
theorem u8_beq (a b : UInt8) : (a == b) = (a.toNat == b.toNat) := by
  rw [Bool.eq_iff_iff, beq_iff_eq, beq_iff_eq, UInt8.toNat_inj]
theorem two_prefix (l : List UInt8) (x y : UInt8) : [x, y].isPrefixOf l = ((l[0]?).elim 256 UInt8.toNat == x.toNat && (l[1]?).elim 256 UInt8.toNat == y.toNat) := by
  have hx := UInt8.toNat_lt x; have hy := UInt8.toNat_lt y
  match l with
  | [] => simp; omega
  | [a] => simp [List.isPrefixOf]; omega
  | a :: b :: r =>
    simp only [List.isPrefixOf, Bool.and_true, List.getElem?_cons_zero, List.getElem?_cons_succ, Option.elim_some, u8_beq]
    rw [show (x.toNat == a.toNat) = (a.toNat == x.toNat) from Bool.beq_comm, show (y.toNat == b.toNat) = (b.toNat == y.toNat) from Bool.beq_comm]
theorem hasp (s : ByteArray) (x y : UInt8) (b : Bool) (hb : (bt s 0 == x.toNat && bt s 1 == y.toNat) = b) (w : World) :
    Calls Tryd.prog 17 #[.string s, .string ⟨#[x, y]⟩] w fun e w' => e = .returned (.bool b) ∧ w = w' := by
  refine (Tryd.strings_HasPrefix s ⟨#[x, y]⟩ w).mono ?_
  rintro e w' ⟨rfl, rfl⟩
  refine ⟨?_, rfl⟩
  rw [← hb, bt_list, bt_list]
  exact ret_bool (two_prefix _ x y)
theorem opens_coll (t : ByteArray) (w : World) : Calls Tryd.prog 50 #[.string t] w fun e w' => e = .returned (.bool (Br.dotted (bt t) 0)) ∧ w = w' := by
  have h1 := fun b hb => hasp t 91 46 b hb w
  have h2 := fun b hb => hasp t 91 61 b hb w
  unfold Br.dotted
  have e1 : (91 : UInt8).toNat = 91 := rfl
  have e2 : (46 : UInt8).toNat = 46 := rfl
  have e3 : (61 : UInt8).toNat = 61 := rfl
  rw [e1, e2] at h1; rw [e1, e3] at h2
  rw [show 0 + 1 = 1 from rfl]
  generalize (bt t 0 == 91) = x at *
  generalize (bt t 1 == 46) = y at *
  generalize (bt t 1 == 61) = z at *
  have H1 := Lib.hid (h1 _ rfl); have H2 := Lib.hid (h2 _ rfl)
  clear h1 h2 e1 e2 e3
  cases x <;> cases y <;> cases z
  all_goals
    go_enter Tryd.func50, Tryd.ntmps50
    go_wp2_with fail
    refine H1.out.mono ?_; rintro e w' ⟨rfl, rfl⟩
    first
    | (go_wp2; go_ret; exact ⟨rfl, rfl⟩)
    | (go_wp2_with fail
       refine H2.out.mono ?_; rintro e w' ⟨rfl, rfl⟩
       go_wp2
       go_ret
       exact ⟨rfl, rfl⟩)
theorem opens_class (t : ByteArray) (w : World) : Calls Tryd.prog 52 #[.string t] w fun e w' => e = .returned (.bool (Br.colon (bt t) 0)) ∧ w = w' := by
  have H1 := Lib.hid (hasp t 91 58 _ rfl w)
  unfold Br.colon
  go_enter Tryd.func52, Tryd.ntmps52
  go_wp2_with fail
  refine H1.out.mono ?_; rintro e w' ⟨rfl, rfl⟩
  go_wp2
  go_ret
  exact ⟨rfl, rfl⟩
/-- The search for ':]' in the rest of a text. -/
theorem occ_clos (s : ByteArray) (k j : Nat) : Lib.occAt (s.extract k s.size).data.toList [58, 93] j = (bt s (k + j) == 58 && bt s (k + j + 1) == 93) := by
  unfold Lib.occAt
  rw [Lib.extract_to_end, List.drop_drop, two_prefix, bt_list, bt_list]
  simp only [List.getElem?_drop]
  rfl
theorem index_clos {s : ByteArray} {k e : Nat} (h : Br.clos (bt s) (s.size - (k + 1)) k = some e) : Lib.indexB (s.extract k s.size) ⟨#[58, 93]⟩ = ((e - k : Nat) : Int) := by
  obtain ⟨h1, h2, h3, h4, h5⟩ := Br.clos_some h
  refine Lib.index_first (by rw [Lib.extract_to_end]; simp; omega) ?_ ?_
  · show Lib.occAt (s.extract k s.size).data.toList [58, 93] (e - k) = true
    rw [occ_clos, show k + (e - k) = e by omega, h3, h4]; rfl
  · intro j hj
    show Lib.occAt (s.extract k s.size).data.toList [58, 93] j = false
    rw [occ_clos]
    have := h5 (k + j) (by omega) (by omega)
    simpa using this
theorem index_noclos {s : ByteArray} {k : Nat} (h : Br.clos (bt s) (s.size - (k + 1)) k = none) : Lib.indexB (s.extract k s.size) ⟨#[58, 93]⟩ = -1 := by
  refine Lib.index_none fun j hj => ?_
  show Lib.occAt (s.extract k s.size).data.toList [58, 93] j = false
  rw [occ_clos]
  cases hb : (bt s (k + j) == 58 && bt s (k + j + 1) == 93) with
  | false => rfl
  | true =>
    simp only [Bool.and_eq_true, beq_iff_eq] at hb
    have hlt := (bt_txt s).lt hb.2 (by omega)
    exfalso
    have : ∀ {n i : Nat}, Br.clos (bt s) n i = none → ∀ x, i ≤ x → x < i + n → ¬ (bt s x = 58 ∧ bt s (x + 1) = 93) := by
      intro n
      induction n with
      | zero => intro i _ x h1 h2; omega
      | succ n ih =>
        intro i hn x h1 h2
        unfold Br.clos at hn
        split at hn
        · cases hn
        · rename_i hc
          simp only [Bool.and_eq_true, beq_iff_eq] at hc
          by_cases e : x = i
          · subst e; exact hc
          · exact ih hn x (by omega) (by omega)
    exact this h (k + j) (by omega) (by omega) hb
/-- v is a new error of number c at place n: its own block lies at B or behind. -/
def ErrOne (A : Nat → Addr) (B : Nat) (w : World) (v : Value) (c : Nat) (n : Int) : Prop :=
  ∃ k p, k < 21 ∧ c = k + 1 ∧ v = .iface 52 (.pointer (some ⟨p, 0, none⟩)) ∧ B ≤ p ∧ w.cell? ⟨p, 0, none⟩ = some (.int .i64 n) ∧ w.cell? ⟨p, 1, none⟩ = some (.iface 115 (.pointer (some (A k))))
theorem ErrOne.at {A : Nat → Addr} {B : Nat} {w : World} {v : Value} {c : Nat} {n : Int} (h : ErrOne A B w v c n) : ErrAt A w v c n := by
  obtain ⟨k, p, hk, hc, rfl, hp, c0, c1⟩ := h
  exact ⟨k, [(false, n, p)], hk, hc, .fault n p c0 c1 .base, rfl⟩
theorem ErrOne.later {A : Nat → Addr} {B : Nat} {w w' : World} {v : Value} {c : Nat} {n : Int} (h : ErrOne A B w v c n) (hb : Below w.heap.size w w') : ErrOne A B w' v c n := by
  obtain ⟨k, p, hk, hc, hv, hp, c0, c1⟩ := h
  exact ⟨k, p, hk, hc, hv, hp, (hb.cell (p := ⟨p, 0, none⟩) (block_lt_of_cell c0)).trans c0, (hb.cell (p := ⟨p, 1, none⟩) (block_lt_of_cell c1)).trans c1⟩
theorem ErrOne.down {A : Nat → Addr} {B B' : Nat} {w : World} {v : Value} {c : Nat} {n : Int} (h : ErrOne A B w v c n) (hB : B' ≤ B) : ErrOne A B' w v c n := by
  obtain ⟨k, p, hk, hc, hv, hp, c0, c1⟩ := h; exact ⟨k, p, hk, hc, hv, by omega, c0, c1⟩
theorem cell_setRow_other {w : World} {g b o : Nat} (cs : Array Value) (h : b ≠ g) : (w.setRow g cs).cell? ⟨b, o, none⟩ = w.cell? ⟨b, o, none⟩ := by
  unfold World.cell?; rw [heap_setRow_other w g cs h]
theorem ErrOne.setRow {A : Nat → Addr} {B : Nat} {w : World} {v : Value} {c : Nat} {n : Int} (h : ErrOne A B w v c n) {g : Nat} (hg : g < B) (cs : Array Value) : ErrOne A B (w.setRow g cs) v c n := by
  obtain ⟨k, p, hk, hc, hv, hp, c0, c1⟩ := h
  exact ⟨k, p, hk, hc, hv, hp, (cell_setRow_other cs (by omega)).trans c0, (cell_setRow_other cs (by omega)).trans c1⟩
theorem ErrOne.iface {A : Nat → Addr} {B : Nat} {w : World} {v : Value} {c : Nat} {n : Int} (h : ErrOne A B w v c n) : ∃ q, v = .iface 52 q := by
  obtain ⟨k, p, hk, hc, hv, -⟩ := h; exact ⟨_, hv⟩
/-- A value of type error that stands for a sentinel, with its place. -/
def PlacedErr (A : Nat → Addr) (c : Nat) (p : Int) (w : World) (e : Ending) (w' : World) : Prop := ∃ v, e = .returned v ∧ ErrOne A w.heap.size w' v c p ∧ Below w.heap.size w w'
theorem at_err (A : Nat → Addr) (k : Nat) (hk : k < 21) (n : Int) (w : World) :
    Calls Tryd.prog 51 #[.int .i64 n, .iface 115 (.pointer (some (A k)))] w (PlacedErr A (k + 1) n w) := by
  refine (at_any n _ _ w).mono ?_
  rintro e w' ⟨p, rfl, hp, hb, c0, c1⟩
  exact ⟨_, rfl, ⟨k, p, hk, rfl, rfl, hp, c0, c1⟩, hb⟩
/-- What an item's reading ends with. -/
def ItEnd (A : Nat → Addr) (R : Br.Ans) (w : World) (e : Ending) (w' : World) : Prop :=
  (match R with
  | .ok P j => e = .returned (.tuple #[(.agg #[.int .u64 (Oc.U (Oc.mk P 0)), .int .u64 (Oc.U (Oc.mk P 1)), .int .u64 (Oc.U (Oc.mk P 2)), .int .u64 (Oc.U (Oc.mk P 3))]), .int .i64 j, .nilIface])
  | .err c p => ∃ v, e = .returned (.tuple #[.agg #[.int .u64 0, .int .u64 0, .int .u64 0, .int .u64 0], .int .i64 0, v]) ∧ ErrOne A w.heap.size w' v c p) ∧ Below w.heap.size w w'
theorem ItEnd.ok {A : Nat → Addr} {R : Br.Ans} {w : World} {e : Ending} {w' : World} (h : ItEnd A R w e w') {P : Nat → Bool} {j : Nat} (hR : R = .ok P j) :
    e = .returned (.tuple #[(.agg #[.int .u64 (Oc.U (Oc.mk P 0)), .int .u64 (Oc.U (Oc.mk P 1)), .int .u64 (Oc.U (Oc.mk P 2)), .int .u64 (Oc.U (Oc.mk P 3))]), .int .i64 j, .nilIface]) ∧ Below w.heap.size w w' := by subst hR; exact h
theorem ItEnd.err {A : Nat → Addr} {R : Br.Ans} {w : World} {e : Ending} {w' : World} (h : ItEnd A R w e w') {c : Nat} {p : Int} (hR : R = .err c p) :
    ∃ v, e = .returned (.tuple #[.agg #[.int .u64 0, .int .u64 0, .int .u64 0, .int .u64 0], .int .i64 0, v]) ∧ ErrOne A w.heap.size w' v c p ∧ Below w.heap.size w w' := by
  subst hR; obtain ⟨⟨v, h1, h2⟩, h3⟩ := h; exact ⟨v, h1, h2, h3⟩
/-- The reader of a pattern, a struct. -/
abbrev rdr (s : ByteArray) (a : Nat) : Value := .agg #[.string s, .int .i64 a]
/-- The cells of the answer's set that is none. -/
abbrev noSet : Array Value := #[.int .u64 0, .int .u64 0, .int .u64 0, .int .u64 0]
theorem noSet_one : noSet.all (·.oneCell') = true := setC_one
theorem cell_two {w : World} {b o : Nat} {v : Value} (h : w.cell? ⟨b, o, none⟩ = some v) (x y : Obj) : ((w.alloc x).alloc y).cell? ⟨b, o, none⟩ = some v :=
  ((((Below.refl w.heap.size w).alloc (Nat.le_refl _) x).alloc (by simp) y).cell (p := ⟨b, o, none⟩) (block_lt_of_cell h)).trans h
/-- Three results, of which the first is a struct's variable. -/
theorem results_row_two {P : Program} {fn : Func} {p q r : Tmp} {ty : TypeId} (h : fn.results = #[.cell p ty, .tmp q, .tmp r]) (tmps : Array Value) (w : World) (g : Nat) (t : TypeId) (cs : Array Value) (fr : Nat × Nat) (d : TypeDesc) (y z : Value)
    (hp : tmps.getD p undef = .pointer (some ⟨g, 0, none⟩)) (hy : tmps.getD q undef = y) (hz : tmps.getD r undef = z) (hg : w.heap[g]? = some (.cells cs t fr))
    (hu : P.underlying ty = some d) (hd : (match d with | .struct _ | .array _ _ => true | _ => false) = true) (hi : (P.info? ty).map (·.size) = some cs.size) :
    (results fn tmps).run P w = .ok (.tuple #[.agg cs, y, z]) w := by
  have hp' : tmps[p]?.getD undef = .pointer (some ⟨g, 0, none⟩) := by simpa using hp
  have hy' : tmps[q]?.getD undef = y := by simpa using hy
  have hz' : tmps[r]?.getD undef = z := by simpa using hz
  simp [results, h, hp', hy', hz', asAddr, run_loadVar_row w g t ty cs fr d hg hu hd hi]
set_option maxHeartbeats 1000000 in
theorem open_any (A : Nat → Addr) (s : ByteArray) (a : Nat) (w : World) (hE : BrEnv w A) :
    Calls Tryd.prog 34 #[.agg #[.string s, .int .i64 a]] w (ItEnd A (.err 1 a) w) := by
  have c0 := fun x y => cell_two (show w.cell? ⟨1, 0, none⟩ = some (.iface 115 (.pointer (some (A 0)))) from (hE.errs 0 (by omega)).1) x y
  go_enter Tryd.func34, Tryd.ntmps34
  go_wp2_with fail
  refine (at_err A 0 (by omega) a _).mono ?_
  rintro e w1 ⟨v, rfl, hv, hb⟩
  have hb0 : Below w.heap.size w ((w.alloc (.cells #[.string s, .int .i64 a] 45)).alloc (.cells #[.int .u64 0, .int .u64 0, .int .u64 0, .int .u64 0] 25)) := by go_grown
  have Z := Lib.hid (keep_blk hb (two_new w _ _).2)
  have HB := Lib.hid (hb0.trans (hb.mono hb0.size))
  have HV := Lib.hid hv
  clear hb hv hb0 c0
  go_wp2_with (first
    | (refine wpList_store_row rfl 25 (.tmp 2) (.tmp 5) rfl (w.heap.size + 1) noSet rfl rfl 25 _ Z.out (by kernel_rfl) rfl noSet_one ?_)
    | fail)
  exact bodyPost_ret (results_row_two rfl _ _ (w.heap.size + 1) 25 noSet (0, 0) _ _ _ rfl rfl rfl (heap_setRow Z.out) Tryd.underlying25 rfl (by kernel_rfl)) rfl ⟨⟨v, rfl, (HV.out.setRow (by simp) noSet).down (by simp; omega)⟩, below_setRow HB.out (Nat.le_succ _) _⟩
end Go.Proofs.YtbpecijdmhablaaDoor
