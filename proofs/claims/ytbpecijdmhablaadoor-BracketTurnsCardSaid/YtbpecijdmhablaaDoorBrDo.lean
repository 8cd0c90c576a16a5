/- What Read of bracket answers: what chapter 5 promises. -/
import Derived.Test.YtbpecijdmhablaaDoorBrDo4
import Derived.Test.YtbpecijdmhablaaDoorBrOne
import Derived.Test.YtbpecijdmhablaaDoorClFold
import Derived.Test.YtbpecijdmhablaaDoorBrRef7
namespace Go.Proofs.YtbpecijdmhablaaDoor
open Go.RowKit
theorem wrap_pow : ∀ k, k < 64 → IntKind.i64.wrap ((2 ^ k : Nat) : Int) ≠ 0 := by decide +kernel
/-- The flag that is looked at, as the walk asks for it. -/
theorem and_bit (fl : Int) (k : Nat) (hk : k < 64) : (bits .and .i64 fl ((2 ^ k : Nat) : Int) != 0) = (BitVec.ofInt 64 fl).getLsbD k := by
  show (IntKind.i64.wrap ((BitVec.ofInt 64 fl &&& BitVec.ofInt 64 ((2 ^ k : Nat) : Int)).toNat : Int) != 0) = _
  generalize BitVec.ofInt 64 fl = x
  have e : BitVec.ofInt 64 ((2 ^ k : Nat) : Int) = BitVec.twoPow 64 k := by
    apply BitVec.eq_of_toNat_eq
    rw [BitVec.toNat_ofInt, BitVec.toNat_twoPow]
    have : (((2 ^ k : Nat) : Int) % ((2 ^ 64 : Nat) : Int)).toNat = 2 ^ k % 2 ^ 64 := by omega
    exact this
  rw [e, BitVec.and_twoPow]
  cases hb : x.getLsbD k with
  | false => simp; decide
  | true =>
    simp only [if_true, BitVec.toNat_twoPow, bne_iff_ne]
    have h1 : 2 ^ k % 2 ^ 64 = 2 ^ k := Nat.mod_eq_of_lt (Nat.pow_lt_pow_right (by omega) hk)
    rw [h1]
    intro h0
    have h2 : IntKind.i64.wrap ((2 ^ k : Nat) : Int) = 0 := h0
    exact wrap_pow k hk h2
theorem bit2 (fl : Int) : (bits .and .i64 fl 2 != 0) = icB fl := and_bit fl 1 (by omega)
theorem bit4 (fl : Int) : (bits .and .i64 fl 4 != 0) = nlB fl := and_bit fl 2 (by omega)
theorem fold_p (P : Nat → Bool) (w : World) : Calls Tryd.prog 19 #[(.agg #[.int .u64 (Oc.U (Oc.mk P 0)), .int .u64 (Oc.U (Oc.mk P 1)), .int .u64 (Oc.U (Oc.mk P 2)), .int .u64 (Oc.U (Oc.mk P 3))])] w fun e w' =>
    e = .returned (.agg #[.int .u64 (Oc.U (Oc.mk (Cl.fold P) 0)), .int .u64 (Oc.U (Oc.mk (Cl.fold P) 1)), .int .u64 (Oc.U (Oc.mk (Cl.fold P) 2)), .int .u64 (Oc.U (Oc.mk (Cl.fold P) 3))]) ∧ Below w.heap.size w w' := by
  have h := fold_any (Oc.mk P 0) (Oc.mk P 1) (Oc.mk P 2) (Oc.mk P 3) w
  rw [Br.mk_fold P 0 (by omega), Br.mk_fold P 1 (by omega), Br.mk_fold P 2 (by omega), Br.mk_fold P 3 (by omega)] at h
  exact h
set_option maxRecDepth 100000 in
set_option maxHeartbeats 4000000 in
theorem others_no (P : Nat → Bool) (fl : Int) (hfl : nlB fl = false) (w : World) : Calls Tryd.prog 20 #[.agg #[.int .u64 (Oc.U (Oc.mk (P) 0)), .int .u64 (Oc.U (Oc.mk (P) 1)), .int .u64 (Oc.U (Oc.mk (P) 2)), .int .u64 (Oc.U (Oc.mk (P) 3))], .int .i64 fl] w fun e w' =>
    e = .returned (.agg #[.int .u64 (Oc.U (Oc.mk (fun x => !P x) 0)), .int .u64 (Oc.U (Oc.mk (fun x => !P x) 1)), .int .u64 (Oc.U (Oc.mk (fun x => !P x) 2)), .int .u64 (Oc.U (Oc.mk (fun x => !P x) 3))]) ∧ Below w.heap.size w w' := by
  have hb4 := bit4 fl
  rw [hfl] at hb4
  clear hfl
  have eN : (fun x => !(P x || x == 10)) = fun x => !P x && !(x == 10) := by funext x; simp
  have hn := fun w => not_p (fun x => P x || x == 10) w
  rw [show (fun x => !(fun x => P x || x == 10) x) = fun x => !P x && !(x == 10) from eN] at hn
  have HN := Lib.hid hn
  clear eN hn
  go_enter Tryd.func20, Tryd.ntmps20
  go_wp2_with fail
  have hb0 : Below w.heap.size w ((w.alloc (.cells #[.int .u64 (Oc.U (Oc.mk (P) 0)), .int .u64 (Oc.U (Oc.mk (P) 1)), .int .u64 (Oc.U (Oc.mk (P) 2)), .int .u64 (Oc.U (Oc.mk (P) 3))] 25)).alloc (.cells noSet 25)) := by go_grown
  obtain ⟨z0, z1⟩ := two_new w (.cells #[.int .u64 (Oc.U (Oc.mk (P) 0)), .int .u64 (Oc.U (Oc.mk (P) 1)), .int .u64 (Oc.U (Oc.mk (P) 2)), .int .u64 (Oc.U (Oc.mk (P) 3))] 25) (.cells noSet 25)
  have Z0 := Lib.hid z0; have Z1 := Lib.hid z1; have HB0 := Lib.hid hb0
  clear z0 z1 hb0
  generalize World.alloc (World.alloc _ _) _ = W at *
  go_wp2_with (first
    | (refine wpList_load_row rfl 25 (.tmp 2) rfl w.heap.size rfl 25 _ (0, 0) _ Z0.out Tryd.underlying25 rfl (by kernel_rfl) ?_)
    | fail)
  refine (not_p P _).mono ?_
  rintro e w1 ⟨rfl, hb⟩
  have Y1 := Lib.hid (keep_blk hb Z1.out)
  have HB := Lib.hid (HB0.out.trans (hb.mono HB0.out.size))
  clear hb
  go_wp2_with (first
    | (refine wpList_store_row rfl 25 (.tmp 4) (.tmp 14) rfl (w.heap.size + 1) #[.int .u64 (Oc.U (Oc.mk (fun x => !P x) 0)), .int .u64 (Oc.U (Oc.mk (fun x => !P x) 1)), .int .u64 (Oc.U (Oc.mk (fun x => !P x) 2)), .int .u64 (Oc.U (Oc.mk (fun x => !P x) 3))] rfl rfl 25 _ Y1.out (by kernel_rfl) rfl setC_one ?_)
    | fail)
  exact bodyPost_ret (results_cell_row rfl _ _ (w.heap.size + 1) 25 #[.int .u64 (Oc.U (Oc.mk (fun x => !P x) 0)), .int .u64 (Oc.U (Oc.mk (fun x => !P x) 1)), .int .u64 (Oc.U (Oc.mk (fun x => !P x) 2)), .int .u64 (Oc.U (Oc.mk (fun x => !P x) 3))] (0, 0) _ rfl (heap_setRow Y1.out) Tryd.underlying25 rfl (by kernel_rfl)) rfl ⟨rfl, by exact below_setRow HB.out (Nat.le_succ _) _⟩
set_option maxRecDepth 100000 in
set_option maxHeartbeats 4000000 in
theorem others_nl (P : Nat → Bool) (fl : Int) (hfl : nlB fl = true) (w : World) : Calls Tryd.prog 20 #[.agg #[.int .u64 (Oc.U (Oc.mk (P) 0)), .int .u64 (Oc.U (Oc.mk (P) 1)), .int .u64 (Oc.U (Oc.mk (P) 2)), .int .u64 (Oc.U (Oc.mk (P) 3))], .int .i64 fl] w fun e w' =>
    e = .returned (.agg #[.int .u64 (Oc.U (Oc.mk (fun x => !P x && !(x == 10)) 0)), .int .u64 (Oc.U (Oc.mk (fun x => !P x && !(x == 10)) 1)), .int .u64 (Oc.U (Oc.mk (fun x => !P x && !(x == 10)) 2)), .int .u64 (Oc.U (Oc.mk (fun x => !P x && !(x == 10)) 3))]) ∧ Below w.heap.size w w' := by
  have hb4 := bit4 fl
  rw [hfl] at hb4
  clear hfl
  have eN : (fun x => !(P x || x == 10)) = fun x => !P x && !(x == 10) := by funext x; simp
  have hn := fun w => not_p (fun x => P x || x == 10) w
  rw [show (fun x => !(fun x => P x || x == 10) x) = fun x => !P x && !(x == 10) from eN] at hn
  have HN := Lib.hid hn
  clear eN hn
  go_enter Tryd.func20, Tryd.ntmps20
  go_wp2_with fail
  have hb0 : Below w.heap.size w ((w.alloc (.cells #[.int .u64 (Oc.U (Oc.mk (P) 0)), .int .u64 (Oc.U (Oc.mk (P) 1)), .int .u64 (Oc.U (Oc.mk (P) 2)), .int .u64 (Oc.U (Oc.mk (P) 3))] 25)).alloc (.cells noSet 25)) := by go_grown
  obtain ⟨z0, z1⟩ := two_new w (.cells #[.int .u64 (Oc.U (Oc.mk (P) 0)), .int .u64 (Oc.U (Oc.mk (P) 1)), .int .u64 (Oc.U (Oc.mk (P) 2)), .int .u64 (Oc.U (Oc.mk (P) 3))] 25) (.cells noSet 25)
  have Z0 := Lib.hid z0; have Z1 := Lib.hid z1; have HB0 := Lib.hid hb0
  clear z0 z1 hb0
  generalize World.alloc (World.alloc _ _) _ = W at *
  refine Ri.wp_region_frame (by kernel_rfl) (by kernel_rfl) (by kernel_rfl) (by kernel_rfl)
    (fun L v w' => Below w.heap.size w w' ∧ W.heap.size ≤ w'.heap.size ∧ (L 5 = true → w'.heap[w.heap.size]? = some (.cells #[.int .u64 (Oc.U (Oc.mk (fun x => P x || x == 10) 0)), .int .u64 (Oc.U (Oc.mk (fun x => P x || x == 10) 1)), .int .u64 (Oc.U (Oc.mk (fun x => P x || x == 10) 2)), .int .u64 (Oc.U (Oc.mk (fun x => P x || x == 10) 3))] 25)) ∧ (L 5 = false → w'.heap[w.heap.size]? = some (.cells #[.int .u64 (Oc.U (Oc.mk (P) 0)), .int .u64 (Oc.U (Oc.mk (P) 1)), .int .u64 (Oc.U (Oc.mk (P) 2)), .int .u64 (Oc.U (Oc.mk (P) 3))] 25)) ∧ (L 5 = true → L 0 = true) ∧ w'.heap[(w.heap.size + 1)]? = some (.cells noSet 25) ∧ (L 0 = true → v 0 = (.agg #[.int .u64 (Oc.U (Oc.mk (P) 0)), .int .u64 (Oc.U (Oc.mk (P) 1)), .int .u64 (Oc.U (Oc.mk (P) 2)), .int .u64 (Oc.U (Oc.mk (P) 3))])) ∧ (L 1 = true → OneN W.heap.size w' (v 1) 10) ∧ (L 2 = true → v 2 = (.agg #[.int .u64 (Oc.U (Oc.mk (fun b => b == 10) 0)), .int .u64 (Oc.U (Oc.mk (fun b => b == 10) 1)), .int .u64 (Oc.U (Oc.mk (fun b => b == 10) 2)), .int .u64 (Oc.U (Oc.mk (fun b => b == 10) 3))])) ∧ (L 3 = true → Sl2N W.heap.size w' (v 3) (Oc.mk (P) 0) (Oc.mk (P) 1) (Oc.mk (P) 2) (Oc.mk (P) 3) (Oc.mk (fun b => b == 10) 0) (Oc.mk (fun b => b == 10) 1) (Oc.mk (fun b => b == 10) 2) (Oc.mk (fun b => b == 10) 3)) ∧ (L 4 = true → v 4 = (.agg #[.int .u64 (Oc.U (Oc.mk (fun x => P x || x == 10) 0)), .int .u64 (Oc.U (Oc.mk (fun x => P x || x == 10) 1)), .int .u64 (Oc.U (Oc.mk (fun x => P x || x == 10) 2)), .int .u64 (Oc.U (Oc.mk (fun x => P x || x == 10) 3))])))
    ?_ ?_ ?_
  · exact ⟨HB0.out.drew, Nat.le_refl _, (by simp), (fun _ => Z0.out), by simp, Z1.out, by simp, by simp, by simp, by simp, by simp⟩
  · intro i hi9 L v w9 xa hI hL hd hv ho
    have hi' : i = 0 ∨ i = 1 ∨ i = 2 ∨ i = 3 ∨ i = 4 ∨ i = 5 := by simp at hi9; omega
    obtain ⟨hb, hz, qn, qo, qm0, k0, q0, q1, q2, q3, q4⟩ := hI
    rcases hi' with rfl | rfl | rfl | rfl | rfl | rfl
    · have e2 : xa.tmps.getD 2 undef = .pointer (some ⟨w.heap.size, 0, none⟩) := ho 2 (by kernel_rfl)
      refine Ri.step_plain rfl rfl (fun K' hK => ?_)
      have hl9 : L 5 = false := by cases h : L 5 with | false => rfl | true => rw [qm0 h] at hL; cases hL
      refine wp_load_row _ _ rfl _ e2 _ _ _ _ (qo hl9) Tryd.underlying25 rfl (by kernel_rfl) ?_
      exact hK _ _ ⟨_, _, rfl, rfl, hb, hz, qn, qo, (fun _ => rfl), k0, fun _ => rfl, q1, q2, q3, q4⟩
    · refine Ri.step_plain rfl rfl (fun K' hK => ?_)
      refine wp_bytes1 _ rfl ?_
      exact hK _ _ ⟨_, _, rfl, rfl, hb.alloc hb.size _, Nat.le_trans hz (by simp), (fun l => heap_alloc_lt (qn l)), (fun l => heap_alloc_lt (qo l)), qm0, (heap_alloc_lt k0), q0, fun _ => ⟨_, hz, rfl, heap_alloc_new _ _⟩, q2, fun l => (q3 l).below ((Below.refl _ _).alloc (Nat.le_refl _) _), q4⟩
    · have l0 : L 1 = true := by have := hd _ rfl; simp [Region.binds] at this; simp [this]
      have f1 := hv 1 9 rfl l0
      refine Ri.step_plain rfl rfl (fun K' hK => ?_)
      go_simp
      refine (one_any (by omega) (q1 l0).plain).mono ?_
      rintro e w8 ⟨rfl, hb8⟩
      exact hK _ _ ⟨_, _, rfl, rfl, hb.trans (hb8.mono hb.size), Nat.le_trans hz hb8.size, (fun l => keep_blk hb8 (qn l)), (fun l => keep_blk hb8 (qo l)), qm0, (keep_blk hb8 k0), q0, fun l => (q1 l).below hb8, fun _ => rfl, fun l => (q3 l).below hb8, q4⟩
    · have l0 : L 0 = true ∧ L 2 = true := by have := hd _ rfl; simp [Region.binds] at this; simp [this]
      have f0 := (hv 0 8 rfl l0.1).trans (q0 l0.1)
      have f2 := (hv 2 10 rfl l0.2).trans (q2 l0.2)
      refine Ri.step_plain rfl rfl (fun K' hK => ?_)
      refine wp_pair _ _ rfl f0 f2 ?_
      exact hK _ _ ⟨_, _, rfl, rfl, hb.alloc hb.size _, Nat.le_trans hz (by simp), (fun l => heap_alloc_lt (qn l)), (fun l => heap_alloc_lt (qo l)), qm0, (heap_alloc_lt k0), q0, fun l => (q1 l).below ((Below.refl _ _).alloc (Nat.le_refl _) _), q2, fun _ => ⟨_, hz, rfl, heap_alloc_new _ _⟩, q4⟩
    · have l0 : L 3 = true := by have := hd _ rfl; simp [Region.binds] at this; simp [this]
      have f3 := hv 3 11 rfl l0
      refine Ri.step_plain rfl rfl (fun K' hK => ?_)
      go_simp
      refine (join_p (q3 l0).plain).mono ?_
      rintro e w8 ⟨rfl, hb8⟩
      exact hK _ _ ⟨_, _, rfl, rfl, hb.trans (hb8.mono hb.size), Nat.le_trans hz hb8.size, (fun l => keep_blk hb8 (qn l)), (fun l => keep_blk hb8 (qo l)), qm0, (keep_blk hb8 k0), q0, fun l => (q1 l).below hb8, q2, fun l => (q3 l).below hb8, fun _ => rfl⟩
    · have l0 : L 4 = true := by have := hd _ rfl; simp [Region.binds] at this; simp [this]
      have f4 := (hv 4 12 rfl l0).trans (q4 l0)
      have e2 : xa.tmps.getD 2 undef = .pointer (some ⟨w.heap.size, 0, none⟩) := ho 2 (by kernel_rfl)
      refine Ri.step_plain rfl rfl (fun K' hK => ?_)
      have h0 : L 0 = true := by have := hd _ rfl; simp [Region.binds] at this; simp [this]
      refine wp_store_row _ _ _ rfl w.heap.size #[.int .u64 (Oc.U (Oc.mk (fun x => P x || x == 10) 0)), .int .u64 (Oc.U (Oc.mk (fun x => P x || x == 10) 1)), .int .u64 (Oc.U (Oc.mk (fun x => P x || x == 10) 2)), .int .u64 (Oc.U (Oc.mk (fun x => P x || x == 10) 3))] e2 f4 25 _ (qo hL) (by kernel_rfl) (by kernel_rfl) setC_one ?_
      exact hK _ _ ⟨_, undef, rfl, rfl, below_setRow hb (Nat.le_refl _) _, by simpa using hz, (fun _ => heap_setRow (qo hL)), (fun h => by cases h), (fun _ => h0), (heap_setRow_other _ _ _ (by omega)).trans k0, q0, fun l => (q1 l).setRow (block_lt Z0.out) _, q2, fun l => (q3 l).setRow (block_lt Z0.out) _, q4⟩
  · rintro v w9 ⟨hb, hz, qn, -, -, k0, -, -, -, -, -⟩
    have zN := qn rfl; clear qn
    simp only [Ri.frame, List.zipIdx, List.foldl_cons, List.foldl_nil, if_true, List.setIfInBounds_toArray, List.set_cons_zero, List.set_cons_succ, Nat.reduceAdd]
    generalize v 0 = y0; generalize v 1 = y1; generalize v 2 = y2; generalize v 3 = y3; generalize v 4 = y4
    go_wp2_with (first
      | (refine wpList_load_row rfl 25 (.tmp 2) rfl w.heap.size rfl 25 _ (0, 0) _ zN Tryd.underlying25 rfl (by kernel_rfl) ?_)
      | fail)
    refine (HN.out _).mono ?_
    rintro e w1 ⟨rfl, hb1⟩
    have Y1 := Lib.hid (keep_blk hb1 k0)
    have HB := Lib.hid (hb.trans (hb1.mono hb.size))
    clear hb1
    go_wp2_with (first
      | (refine wpList_store_row rfl 25 (.tmp 4) (.tmp 14) rfl (w.heap.size + 1) #[.int .u64 (Oc.U (Oc.mk (fun x => !P x && !(x == 10)) 0)), .int .u64 (Oc.U (Oc.mk (fun x => !P x && !(x == 10)) 1)), .int .u64 (Oc.U (Oc.mk (fun x => !P x && !(x == 10)) 2)), .int .u64 (Oc.U (Oc.mk (fun x => !P x && !(x == 10)) 3))] rfl rfl 25 _ Y1.out (by kernel_rfl) rfl setC_one ?_)
      | fail)
    exact bodyPost_ret (results_cell_row rfl _ _ (w.heap.size + 1) 25 #[.int .u64 (Oc.U (Oc.mk (fun x => !P x && !(x == 10)) 0)), .int .u64 (Oc.U (Oc.mk (fun x => !P x && !(x == 10)) 1)), .int .u64 (Oc.U (Oc.mk (fun x => !P x && !(x == 10)) 2)), .int .u64 (Oc.U (Oc.mk (fun x => !P x && !(x == 10)) 3))] (0, 0) _ rfl (heap_setRow Y1.out) Tryd.underlying25 rfl (by kernel_rfl)) rfl ⟨rfl, by exact below_setRow HB.out (Nat.le_succ _) _⟩
theorem one_prefix (l : List UInt8) (x : UInt8) : [x].isPrefixOf l = ((l[0]?).elim 256 UInt8.toNat == x.toNat) := by
  have hx := UInt8.toNat_lt x
  match l with
  | [] => simp; omega
  | a :: r =>
    simp only [List.isPrefixOf, Bool.and_true, List.getElem?_cons_zero, Option.elim_some, u8_beq]
    exact Bool.beq_comm
theorem caret_at (s : ByteArray) (i : Nat) (b : Bool) (hb : (bt s i == 94) = b) (w : World) :
    Calls Tryd.prog 17 #[.string (s.extract i s.size), .string ⟨#[94]⟩] w fun e w' => e = .returned (.bool b) ∧ w = w' := by
  refine (Tryd.strings_HasPrefix (s.extract i s.size) ⟨#[94]⟩ w).mono ?_
  rintro e w' ⟨rfl, rfl⟩
  refine ⟨?_, rfl⟩
  rw [← hb]
  have := bt_ext s i 0
  rw [bt_list, Nat.add_zero] at this
  rw [← this]
  exact ret_bool (one_prefix _ 94)
set_option maxRecDepth 100000 in
set_option maxHeartbeats 4000000 in
theorem read_neg (A : Nat → Addr) (s : ByteArray) (_hs : s.size ≤ 4294967280) (at_ : Int) (h : at_ < 0) (fl : Int) (w : World) (hE : BrEnv w A) :
    Calls Tryd.prog 7 #[.string s, .int .i64 at_, .int .i64 fl] w (ReadEnd A (.err 15 (-1)) w) := by
  have hg : 0 < w.heap.size := block_lt_of_cell (hE.errs 14 (by omega)).1
  have HE := Lib.hid hE
  clear hE
  go_enter Tryd.func7, Tryd.ntmps7
  go_wp2_with fail
  have hb0 : Below w.heap.size w (w.alloc (.cells noSet 25)) := by go_grown
  have z0 := heap_alloc_new w (.cells noSet 25)
  have c14 : (w.alloc (.cells noSet 25)).cell? ⟨0, 0, none⟩ = some (.iface 115 (.pointer (some (A 14)))) := ((HE.out.below hb0).errs 14 (by omega)).1
  generalize World.alloc w _ = W at *
  obtain ⟨d0, e0, d1, e1', d2, e2, d3, e3, r0, r1, r2, r3⟩ := four_st z0
  have HB := Lib.hid hb0
  clear hb0 z0
  go_region
  all_goals
    go_wp2
    have hb := HB.out
    refine bodyPost_ret (v := .tuple #[.agg noSet, .int .i64 0, .iface 115 (.pointer (some (A 14)))]) (by simp [results, Tryd.results7, go_sem, r0, r1, r2, r3]) rfl ⟨⟨_, rfl, 14, [], by omega, rfl, .base, rfl⟩, ?_⟩
    go_grown
set_option maxRecDepth 100000 in
set_option maxHeartbeats 4000000 in
theorem read_far (A : Nat → Addr) (s : ByteArray) (_hs : s.size ≤ 4294967280) (a : Nat) (h : s.size ≤ a) (fl : Int) (w : World) (hE : BrEnv w A) :
    Calls Tryd.prog 7 #[.string s, .int .i64 a, .int .i64 fl] w (ReadEnd A (.err 15 (-1)) w) := by
  have h0 : (0 : Int) ≤ a := by omega
  have h1 : decide (s.size ≤ a) = true := by simpa using h
  have hg : 0 < w.heap.size := block_lt_of_cell (hE.errs 14 (by omega)).1
  have HE := Lib.hid hE
  clear hE
  go_enter Tryd.func7, Tryd.ntmps7
  go_wp2_with fail
  have hb0 : Below w.heap.size w (w.alloc (.cells noSet 25)) := by go_grown
  have z0 := heap_alloc_new w (.cells noSet 25)
  have c14 : (w.alloc (.cells noSet 25)).cell? ⟨0, 0, none⟩ = some (.iface 115 (.pointer (some (A 14)))) := ((HE.out.below hb0).errs 14 (by omega)).1
  generalize World.alloc w _ = W at *
  obtain ⟨d0, e0, d1, e1', d2, e2, d3, e3, r0, r1, r2, r3⟩ := four_st z0
  have HB := Lib.hid hb0
  clear hb0 z0
  go_region
  all_goals
    go_wp2
    have hb := HB.out
    refine bodyPost_ret (v := .tuple #[.agg noSet, .int .i64 0, .iface 115 (.pointer (some (A 14)))]) (by simp [results, Tryd.results7, go_sem, r0, r1, r2, r3]) rfl ⟨⟨_, rfl, 14, [], by omega, rfl, .base, rfl⟩, ?_⟩
    go_grown
set_option maxRecDepth 100000 in
set_option maxHeartbeats 4000000 in
theorem read_other (A : Nat → Addr) (s : ByteArray) (_hs : s.size ≤ 4294967280) (a : Nat) (h : a < s.size) (h2 : bt s a ≠ 91) (fl : Int) (w : World) (hE : BrEnv w A) :
    Calls Tryd.prog 7 #[.string s, .int .i64 a, .int .i64 fl] w (ReadEnd A (.err 15 (-1)) w) := by
  have h0 : (0 : Int) ≤ a := by omega
  have h1 : decide (s.size ≤ a) = false := by simpa using h
  have e1 : ((s[a].toNat : Int) != 91) = true := by rw [bt_at h]; simp; omega
  clear h2
  have hg : 0 < w.heap.size := block_lt_of_cell (hE.errs 14 (by omega)).1
  have HE := Lib.hid hE
  clear hE
  go_enter Tryd.func7, Tryd.ntmps7
  go_wp2_with fail
  have hb0 : Below w.heap.size w (w.alloc (.cells noSet 25)) := by go_grown
  have z0 := heap_alloc_new w (.cells noSet 25)
  have c14 : (w.alloc (.cells noSet 25)).cell? ⟨0, 0, none⟩ = some (.iface 115 (.pointer (some (A 14)))) := ((HE.out.below hb0).errs 14 (by omega)).1
  generalize World.alloc w _ = W at *
  obtain ⟨d0, e0, d1, e1', d2, e2, d3, e3, r0, r1, r2, r3⟩ := four_st z0
  have HB := Lib.hid hb0
  clear hb0 z0
  go_region
  all_goals
    go_wp2
    have hb := HB.out
    refine bodyPost_ret (v := .tuple #[.agg noSet, .int .i64 0, .iface 115 (.pointer (some (A 14)))]) (by simp [results, Tryd.results7, go_sem, r0, r1, r2, r3]) rfl ⟨⟨_, rfl, 14, [], by omega, rfl, .base, rfl⟩, ?_⟩
    go_grown
set_option maxRecDepth 100000 in
set_option maxHeartbeats 4000000 in
theorem read_err_false (A : Nat → Addr) (s : ByteArray) (hs : s.size ≤ 4294967280) (a : Nat) (ha : bt s a = 91) (ht : (bt s (a + 1) == 94) = false) (c : Nat) (q : Int) (hR : Br.items (bt s) s.size a (s.size + 1) (a + 1) (fun _ => false) false = .err c q) (fl : Int) (w : World) (hE : BrEnv w A) :
    Calls Tryd.prog 7 #[.string s, .int .i64 a, .int .i64 fl] w (ReadEnd A (.err c q) w) := by
  have hal := (bt_txt s).lt ha (by omega)
  have h0 : (0 : Int) ≤ a := by omega
  have h1 : decide (s.size ≤ a) = false := by simp; omega
  have e1 : ((s[a].toNat : Int) != 91) = false := by rw [bt_at hal, ha]; rfl
  have hw1 : IntKind.i64.wrap ((a : Int) + 1) = (a : Int) + 1 := IntWalk.i64_in _ (by omega)
  have hw2 : IntKind.i64.wrap ((a : Int) + 1 + 1) = (a : Int) + 1 + 1 := IntWalk.i64_in _ (by omega)
  have h3 : (0 : Int) ≤ (a : Int) + 1 := by omega
  have h4 : (a : Int) + 1 ≤ s.size := by omega
  have HC := Lib.hid (caret_at s (a + 1) _ ht)
  have hit := fun w hE => britems_any A s hs a (a + 1) (by omega) _ hR w hE
  rw [show ((a + 1 : Nat) : Int) = (a : Int) + 1 by omega] at hit
  have HI := Lib.hid hit; have HE := Lib.hid hE
  clear hit hE ha ht hR
  go_enter Tryd.func7, Tryd.ntmps7
  go_wp2_with fail
  refine (HC.out _).mono ?_; rintro e w' ⟨rfl, rfl⟩
  go_wp2_with fail
  have hb0 : Below w.heap.size w ((w.alloc (.cells noSet 25)).alloc (.cells #[.string s, .int .i64 a] 45)) := by go_grown
  obtain ⟨z0, z1⟩ := two_new w (.cells noSet 25) (.cells #[.string s, .int .i64 a] 45)
  have hsz : ((w.alloc (.cells noSet 25)).alloc (.cells #[.string s, .int .i64 a] 45)).heap.size = w.heap.size + 2 := by simp
  generalize World.alloc (World.alloc _ _) _ = W at *
  have HB0 := Lib.hid hb0; have Z0 := Lib.hid z0; have HSZ := Lib.hid hsz
  clear hb0 z0 z1 hsz
  refine (HI.out _ (HE.out.below HB0.out)).mono ?_
  intro e w1 he
  obtain ⟨v, rfl, hv, hb⟩ := he.err rfl
  obtain ⟨q', rfl⟩ := hv.iface
  have hbA : Below W.heap.size W (w1.alloc (.cells noSet 25)) := hb.alloc hb.size _
  have Y0 := Lib.hid (keep_blk hbA Z0.out)
  have HB := Lib.hid (HB0.out.trans (hbA.mono HB0.out.size))
  have HV := Lib.hid (hv.later ((Below.refl w1.heap.size w1).alloc (Nat.le_refl _) (.cells noSet 25)))
  clear hb hbA hv he
  go_wp2_with (first
    | (refine wpList_store_row rfl 25 (.tmp 6) (.tmp 52) rfl (w.heap.size) noSet rfl rfl 25 _ Y0.out (by kernel_rfl) rfl setC_one ?_)
    | fail)
  exact bodyPost_ret (results_row_two rfl _ _ w.heap.size 25 noSet (0, 0) _ _ _ rfl rfl rfl (heap_setRow Y0.out) Tryd.underlying25 rfl (by kernel_rfl)) rfl ⟨⟨_, rfl, (HV.out.setRow (by rw [HSZ.out]; omega) noSet).at⟩, by exact below_setRow HB.out (Nat.le_refl _) _⟩
set_option maxRecDepth 100000 in
set_option maxHeartbeats 4000000 in
theorem read_ok_false (A : Nat → Addr) (s : ByteArray) (hs : s.size ≤ 4294967280) (a : Nat) (ha : bt s a = 91) (ht : (bt s (a + 1) == 94) = false) (P : Nat → Bool) (j : Nat) (hR : Br.items (bt s) s.size a (s.size + 1) (a + 1) (fun _ => false) false = .ok P j) (fl : Int) (hic : icB fl = false) (nl : Bool) (w : World) (hE : BrEnv w A) :
    Calls Tryd.prog 7 #[.string s, .int .i64 a, .int .i64 fl] w (ReadEnd A (.ok (Br.fin false nl false P) (j + 1)) w) := by
  have hjn := (Br.items_ok (bt_txt s) (by have := (bt_txt s).lt ha (by omega); omega) hR).2.1
  have hwj : IntKind.i64.wrap ((j : Int) + 1) = (j : Int) + 1 := IntWalk.i64_in _ (by omega)
  have hb2 := bit2 fl
  rw [hic] at hb2
  have hal := (bt_txt s).lt ha (by omega)
  have h0 : (0 : Int) ≤ a := by omega
  have h1 : decide (s.size ≤ a) = false := by simp; omega
  have e1 : ((s[a].toNat : Int) != 91) = false := by rw [bt_at hal, ha]; rfl
  have hw1 : IntKind.i64.wrap ((a : Int) + 1) = (a : Int) + 1 := IntWalk.i64_in _ (by omega)
  have hw2 : IntKind.i64.wrap ((a : Int) + 1 + 1) = (a : Int) + 1 + 1 := IntWalk.i64_in _ (by omega)
  have h3 : (0 : Int) ≤ (a : Int) + 1 := by omega
  have h4 : (a : Int) + 1 ≤ s.size := by omega
  have HC := Lib.hid (caret_at s (a + 1) _ ht)
  have hit := fun w hE => britems_any A s hs a (a + 1) (by omega) _ hR w hE
  rw [show ((a + 1 : Nat) : Int) = (a : Int) + 1 by omega] at hit
  have HI := Lib.hid hit; have HE := Lib.hid hE
  clear hit hE ha ht hR
  clear hic
  go_enter Tryd.func7, Tryd.ntmps7
  go_wp2_with fail
  refine (HC.out _).mono ?_; rintro e w' ⟨rfl, rfl⟩
  go_wp2_with fail
  have hb0 : Below w.heap.size w ((w.alloc (.cells noSet 25)).alloc (.cells #[.string s, .int .i64 a] 45)) := by go_grown
  obtain ⟨z0, z1⟩ := two_new w (.cells noSet 25) (.cells #[.string s, .int .i64 a] 45)
  have hsz : ((w.alloc (.cells noSet 25)).alloc (.cells #[.string s, .int .i64 a] 45)).heap.size = w.heap.size + 2 := by simp
  generalize World.alloc (World.alloc _ _) _ = W at *
  have HB0 := Lib.hid hb0; have Z0 := Lib.hid z0; have HSZ := Lib.hid hsz
  clear hb0 z0 z1 hsz
  refine (HI.out _ (HE.out.below HB0.out)).mono ?_
  intro e w1 he
  obtain ⟨rfl, hb⟩ := he.ok rfl
  have hbA : Below W.heap.size W (w1.alloc (.cells #[.int .u64 (Oc.U (Oc.mk (P) 0)), .int .u64 (Oc.U (Oc.mk (P) 1)), .int .u64 (Oc.U (Oc.mk (P) 2)), .int .u64 (Oc.U (Oc.mk (P) 3))] 25)) := hb.alloc hb.size _
  have Y0 := Lib.hid (keep_blk hbA Z0.out)
  have Y1 := Lib.hid (heap_alloc_new w1 (.cells #[.int .u64 (Oc.U (Oc.mk (P) 0)), .int .u64 (Oc.U (Oc.mk (P) 1)), .int .u64 (Oc.U (Oc.mk (P) 2)), .int .u64 (Oc.U (Oc.mk (P) 3))] 25))
  have HB := Lib.hid (HB0.out.trans (hbA.mono HB0.out.size))
  have hlt : w.heap.size < w1.heap.size := by have := hb.size; have := HSZ.out; omega
  clear hb hbA he
  go_wp2_with (first
    | (refine wpList_load_row rfl 25 (.tmp 12) rfl (w1.heap.size) rfl 25 _ (0, 0) _ Y1.out Tryd.underlying25 rfl (by kernel_rfl) ?_)
    | (refine wpList_store_row rfl 25 (.tmp 6) (.tmp 63) rfl (w.heap.size) #[.int .u64 (Oc.U (Oc.mk (P) 0)), .int .u64 (Oc.U (Oc.mk (P) 1)), .int .u64 (Oc.U (Oc.mk (P) 2)), .int .u64 (Oc.U (Oc.mk (P) 3))] rfl rfl 25 _ Y0.out (by kernel_rfl) rfl setC_one ?_)
    | fail)
  exact bodyPost_ret (results_row_two rfl _ _ w.heap.size 25 #[.int .u64 (Oc.U (Oc.mk (P) 0)), .int .u64 (Oc.U (Oc.mk (P) 1)), .int .u64 (Oc.U (Oc.mk (P) 2)), .int .u64 (Oc.U (Oc.mk (P) 3))] (0, 0) _ _ _ rfl rfl rfl (heap_setRow Y0.out) Tryd.underlying25 rfl (by kernel_rfl)) rfl ⟨by exact rfl, by exact below_setRow HB.out (Nat.le_refl _) _⟩
set_option maxRecDepth 100000 in
set_option maxHeartbeats 4000000 in
theorem read_ok_false_ic (A : Nat → Addr) (s : ByteArray) (hs : s.size ≤ 4294967280) (a : Nat) (ha : bt s a = 91) (ht : (bt s (a + 1) == 94) = false) (P : Nat → Bool) (j : Nat) (hR : Br.items (bt s) s.size a (s.size + 1) (a + 1) (fun _ => false) false = .ok P j) (fl : Int) (hic : icB fl = true) (nl : Bool) (w : World) (hE : BrEnv w A) :
    Calls Tryd.prog 7 #[.string s, .int .i64 a, .int .i64 fl] w (ReadEnd A (.ok (Br.fin true nl false P) (j + 1)) w) := by
  have hjn := (Br.items_ok (bt_txt s) (by have := (bt_txt s).lt ha (by omega); omega) hR).2.1
  have hwj : IntKind.i64.wrap ((j : Int) + 1) = (j : Int) + 1 := IntWalk.i64_in _ (by omega)
  have hb2 := bit2 fl
  rw [hic] at hb2
  have hal := (bt_txt s).lt ha (by omega)
  have h0 : (0 : Int) ≤ a := by omega
  have h1 : decide (s.size ≤ a) = false := by simp; omega
  have e1 : ((s[a].toNat : Int) != 91) = false := by rw [bt_at hal, ha]; rfl
  have hw1 : IntKind.i64.wrap ((a : Int) + 1) = (a : Int) + 1 := IntWalk.i64_in _ (by omega)
  have hw2 : IntKind.i64.wrap ((a : Int) + 1 + 1) = (a : Int) + 1 + 1 := IntWalk.i64_in _ (by omega)
  have h3 : (0 : Int) ≤ (a : Int) + 1 := by omega
  have h4 : (a : Int) + 1 ≤ s.size := by omega
  have HC := Lib.hid (caret_at s (a + 1) _ ht)
  have hit := fun w hE => britems_any A s hs a (a + 1) (by omega) _ hR w hE
  rw [show ((a + 1 : Nat) : Int) = (a : Int) + 1 by omega] at hit
  have HI := Lib.hid hit; have HE := Lib.hid hE
  clear hit hE ha ht hR
  clear hic
  go_enter Tryd.func7, Tryd.ntmps7
  go_wp2_with fail
  refine (HC.out _).mono ?_; rintro e w' ⟨rfl, rfl⟩
  go_wp2_with fail
  have hb0 : Below w.heap.size w ((w.alloc (.cells noSet 25)).alloc (.cells #[.string s, .int .i64 a] 45)) := by go_grown
  obtain ⟨z0, z1⟩ := two_new w (.cells noSet 25) (.cells #[.string s, .int .i64 a] 45)
  have hsz : ((w.alloc (.cells noSet 25)).alloc (.cells #[.string s, .int .i64 a] 45)).heap.size = w.heap.size + 2 := by simp
  generalize World.alloc (World.alloc _ _) _ = W at *
  have HB0 := Lib.hid hb0; have Z0 := Lib.hid z0; have HSZ := Lib.hid hsz
  clear hb0 z0 z1 hsz
  refine (HI.out _ (HE.out.below HB0.out)).mono ?_
  intro e w1 he
  obtain ⟨rfl, hb⟩ := he.ok rfl
  have hbA : Below W.heap.size W (w1.alloc (.cells #[.int .u64 (Oc.U (Oc.mk (P) 0)), .int .u64 (Oc.U (Oc.mk (P) 1)), .int .u64 (Oc.U (Oc.mk (P) 2)), .int .u64 (Oc.U (Oc.mk (P) 3))] 25)) := hb.alloc hb.size _
  have Y0 := Lib.hid (keep_blk hbA Z0.out)
  have Y1 := Lib.hid (heap_alloc_new w1 (.cells #[.int .u64 (Oc.U (Oc.mk (P) 0)), .int .u64 (Oc.U (Oc.mk (P) 1)), .int .u64 (Oc.U (Oc.mk (P) 2)), .int .u64 (Oc.U (Oc.mk (P) 3))] 25))
  have HB := Lib.hid (HB0.out.trans (hbA.mono HB0.out.size))
  have hlt : w.heap.size < w1.heap.size := by have := hb.size; have := HSZ.out; omega
  clear hb hbA he
  go_wp2_with (first
    | (refine wpList_load_row rfl 25 (.tmp 12) rfl (w1.heap.size) rfl 25 _ (0, 0) _ Y1.out Tryd.underlying25 rfl (by kernel_rfl) ?_)
    | fail)
  refine (fold_p P _).mono ?_
  rintro e w2 ⟨rfl, hb⟩
  have Y0a := Lib.hid (keep_blk hb Y0.out)
  have Y1a := Lib.hid (keep_blk hb Y1.out)
  have HBa := Lib.hid (HB.out.trans (hb.mono HB.out.size))
  have Y0b : Hid ((w2.setRow w1.heap.size #[.int .u64 (Oc.U (Oc.mk (Cl.fold P) 0)), .int .u64 (Oc.U (Oc.mk (Cl.fold P) 1)), .int .u64 (Oc.U (Oc.mk (Cl.fold P) 2)), .int .u64 (Oc.U (Oc.mk (Cl.fold P) 3))]).heap[w.heap.size]? = some (.cells noSet 25)) := Lib.hid ((heap_setRow_other _ _ _ (by omega)).trans Y0a.out)
  have Y1b : Hid ((w2.setRow w1.heap.size #[.int .u64 (Oc.U (Oc.mk (Cl.fold P) 0)), .int .u64 (Oc.U (Oc.mk (Cl.fold P) 1)), .int .u64 (Oc.U (Oc.mk (Cl.fold P) 2)), .int .u64 (Oc.U (Oc.mk (Cl.fold P) 3))]).heap[w1.heap.size]? = some (.cells #[.int .u64 (Oc.U (Oc.mk (Cl.fold P) 0)), .int .u64 (Oc.U (Oc.mk (Cl.fold P) 1)), .int .u64 (Oc.U (Oc.mk (Cl.fold P) 2)), .int .u64 (Oc.U (Oc.mk (Cl.fold P) 3))] 25)) := Lib.hid (heap_setRow Y1a.out)
  have HBb : Hid (Below w.heap.size w (w2.setRow w1.heap.size #[.int .u64 (Oc.U (Oc.mk (Cl.fold P) 0)), .int .u64 (Oc.U (Oc.mk (Cl.fold P) 1)), .int .u64 (Oc.U (Oc.mk (Cl.fold P) 2)), .int .u64 (Oc.U (Oc.mk (Cl.fold P) 3))])) := Lib.hid (below_setRow HBa.out (Nat.le_of_lt hlt) _)
  clear hb
  go_wp2_with (first
    | (refine wpList_load_row rfl 25 (.tmp 12) rfl (w1.heap.size) rfl 25 _ (0, 0) _ Y1b.out Tryd.underlying25 rfl (by kernel_rfl) ?_)
    | (refine wpList_store_row rfl 25 (.tmp 12) (.tmp 58) rfl (w1.heap.size) #[.int .u64 (Oc.U (Oc.mk (Cl.fold P) 0)), .int .u64 (Oc.U (Oc.mk (Cl.fold P) 1)), .int .u64 (Oc.U (Oc.mk (Cl.fold P) 2)), .int .u64 (Oc.U (Oc.mk (Cl.fold P) 3))] rfl rfl 25 _ Y1a.out (by kernel_rfl) rfl setC_one ?_)
    | (refine wpList_store_row rfl 25 (.tmp 6) (.tmp 63) rfl (w.heap.size) #[.int .u64 (Oc.U (Oc.mk (Cl.fold P) 0)), .int .u64 (Oc.U (Oc.mk (Cl.fold P) 1)), .int .u64 (Oc.U (Oc.mk (Cl.fold P) 2)), .int .u64 (Oc.U (Oc.mk (Cl.fold P) 3))] rfl rfl 25 _ Y0b.out (by kernel_rfl) rfl setC_one ?_)
    | fail)
  exact bodyPost_ret (results_row_two rfl _ _ w.heap.size 25 #[.int .u64 (Oc.U (Oc.mk (Cl.fold P) 0)), .int .u64 (Oc.U (Oc.mk (Cl.fold P) 1)), .int .u64 (Oc.U (Oc.mk (Cl.fold P) 2)), .int .u64 (Oc.U (Oc.mk (Cl.fold P) 3))] (0, 0) _ _ _ rfl rfl rfl (heap_setRow Y0b.out) Tryd.underlying25 rfl (by kernel_rfl)) rfl ⟨by exact rfl, by exact below_setRow HBb.out (Nat.le_refl _) _⟩
set_option maxRecDepth 100000 in
set_option maxHeartbeats 4000000 in
theorem read_err_true (A : Nat → Addr) (s : ByteArray) (hs : s.size ≤ 4294967280) (a : Nat) (ha : bt s a = 91) (ht : (bt s (a + 1) == 94) = true) (c : Nat) (q : Int) (hR : Br.items (bt s) s.size a (s.size + 1) (a + 2) (fun _ => false) false = .err c q) (fl : Int) (w : World) (hE : BrEnv w A) :
    Calls Tryd.prog 7 #[.string s, .int .i64 a, .int .i64 fl] w (ReadEnd A (.err c q) w) := by
  have hal := (bt_txt s).lt ha (by omega)
  have h0 : (0 : Int) ≤ a := by omega
  have h1 : decide (s.size ≤ a) = false := by simp; omega
  have e1 : ((s[a].toNat : Int) != 91) = false := by rw [bt_at hal, ha]; rfl
  have hw1 : IntKind.i64.wrap ((a : Int) + 1) = (a : Int) + 1 := IntWalk.i64_in _ (by omega)
  have hw2 : IntKind.i64.wrap ((a : Int) + 1 + 1) = (a : Int) + 1 + 1 := IntWalk.i64_in _ (by omega)
  have h3 : (0 : Int) ≤ (a : Int) + 1 := by omega
  have h4 : (a : Int) + 1 ≤ s.size := by omega
  have HC := Lib.hid (caret_at s (a + 1) _ ht)
  have hal2 := (bt_txt s).lt (beq_iff_eq.1 ht) (by omega)
  have hit := fun w hE => britems_any A s hs a (a + 2) (by omega) _ hR w hE
  rw [show ((a + 2 : Nat) : Int) = (a : Int) + 1 + 1 by omega] at hit
  have HI := Lib.hid hit; have HE := Lib.hid hE
  clear hit hE ha ht hR
  go_enter Tryd.func7, Tryd.ntmps7
  go_wp2_with fail
  refine (HC.out _).mono ?_; rintro e w' ⟨rfl, rfl⟩
  go_wp2_with fail
  have hb0 : Below w.heap.size w ((w.alloc (.cells noSet 25)).alloc (.cells #[.string s, .int .i64 a] 45)) := by go_grown
  obtain ⟨z0, z1⟩ := two_new w (.cells noSet 25) (.cells #[.string s, .int .i64 a] 45)
  have hsz : ((w.alloc (.cells noSet 25)).alloc (.cells #[.string s, .int .i64 a] 45)).heap.size = w.heap.size + 2 := by simp
  generalize World.alloc (World.alloc _ _) _ = W at *
  have HB0 := Lib.hid hb0; have Z0 := Lib.hid z0; have HSZ := Lib.hid hsz
  clear hb0 z0 z1 hsz
  refine (HI.out _ (HE.out.below HB0.out)).mono ?_
  intro e w1 he
  obtain ⟨v, rfl, hv, hb⟩ := he.err rfl
  obtain ⟨q', rfl⟩ := hv.iface
  have hbA : Below W.heap.size W (w1.alloc (.cells noSet 25)) := hb.alloc hb.size _
  have Y0 := Lib.hid (keep_blk hbA Z0.out)
  have HB := Lib.hid (HB0.out.trans (hbA.mono HB0.out.size))
  have HV := Lib.hid (hv.later ((Below.refl w1.heap.size w1).alloc (Nat.le_refl _) (.cells noSet 25)))
  clear hb hbA hv he
  go_wp2_with (first
    | (refine wpList_store_row rfl 25 (.tmp 6) (.tmp 52) rfl (w.heap.size) noSet rfl rfl 25 _ Y0.out (by kernel_rfl) rfl setC_one ?_)
    | fail)
  exact bodyPost_ret (results_row_two rfl _ _ w.heap.size 25 noSet (0, 0) _ _ _ rfl rfl rfl (heap_setRow Y0.out) Tryd.underlying25 rfl (by kernel_rfl)) rfl ⟨⟨_, rfl, (HV.out.setRow (by rw [HSZ.out]; omega) noSet).at⟩, by exact below_setRow HB.out (Nat.le_refl _) _⟩
set_option maxRecDepth 100000 in
set_option maxHeartbeats 4000000 in
theorem read_ok_true_no (A : Nat → Addr) (s : ByteArray) (hs : s.size ≤ 4294967280) (a : Nat) (ha : bt s a = 91) (ht : (bt s (a + 1) == 94) = true) (P : Nat → Bool) (j : Nat) (hR : Br.items (bt s) s.size a (s.size + 1) (a + 2) (fun _ => false) false = .ok P j) (fl : Int) (hic : icB fl = false) (hnl : nlB fl = false) (w : World) (hE : BrEnv w A) :
    Calls Tryd.prog 7 #[.string s, .int .i64 a, .int .i64 fl] w (ReadEnd A (.ok (Br.fin false false true P) (j + 1)) w) := by
  have hjn := (Br.items_ok (bt_txt s) (by have := (bt_txt s).lt ha (by omega); have := (bt_txt s).lt (beq_iff_eq.1 ht) (by omega); omega) hR).2.1
  have hwj : IntKind.i64.wrap ((j : Int) + 1) = (j : Int) + 1 := IntWalk.i64_in _ (by omega)
  have hb2 := bit2 fl
  rw [hic] at hb2
  have hal := (bt_txt s).lt ha (by omega)
  have h0 : (0 : Int) ≤ a := by omega
  have h1 : decide (s.size ≤ a) = false := by simp; omega
  have e1 : ((s[a].toNat : Int) != 91) = false := by rw [bt_at hal, ha]; rfl
  have hw1 : IntKind.i64.wrap ((a : Int) + 1) = (a : Int) + 1 := IntWalk.i64_in _ (by omega)
  have hw2 : IntKind.i64.wrap ((a : Int) + 1 + 1) = (a : Int) + 1 + 1 := IntWalk.i64_in _ (by omega)
  have h3 : (0 : Int) ≤ (a : Int) + 1 := by omega
  have h4 : (a : Int) + 1 ≤ s.size := by omega
  have HC := Lib.hid (caret_at s (a + 1) _ ht)
  have hal2 := (bt_txt s).lt (beq_iff_eq.1 ht) (by omega)
  have hit := fun w hE => britems_any A s hs a (a + 2) (by omega) _ hR w hE
  rw [show ((a + 2 : Nat) : Int) = (a : Int) + 1 + 1 by omega] at hit
  have HI := Lib.hid hit; have HE := Lib.hid hE
  clear hit hE ha ht hR
  have HO := Lib.hid (others_no (P) fl hnl)
  clear hnl
  clear hic
  go_enter Tryd.func7, Tryd.ntmps7
  go_wp2_with fail
  refine (HC.out _).mono ?_; rintro e w' ⟨rfl, rfl⟩
  go_wp2_with fail
  have hb0 : Below w.heap.size w ((w.alloc (.cells noSet 25)).alloc (.cells #[.string s, .int .i64 a] 45)) := by go_grown
  obtain ⟨z0, z1⟩ := two_new w (.cells noSet 25) (.cells #[.string s, .int .i64 a] 45)
  have hsz : ((w.alloc (.cells noSet 25)).alloc (.cells #[.string s, .int .i64 a] 45)).heap.size = w.heap.size + 2 := by simp
  generalize World.alloc (World.alloc _ _) _ = W at *
  have HB0 := Lib.hid hb0; have Z0 := Lib.hid z0; have HSZ := Lib.hid hsz
  clear hb0 z0 z1 hsz
  refine (HI.out _ (HE.out.below HB0.out)).mono ?_
  intro e w1 he
  obtain ⟨rfl, hb⟩ := he.ok rfl
  have hbA : Below W.heap.size W (w1.alloc (.cells #[.int .u64 (Oc.U (Oc.mk (P) 0)), .int .u64 (Oc.U (Oc.mk (P) 1)), .int .u64 (Oc.U (Oc.mk (P) 2)), .int .u64 (Oc.U (Oc.mk (P) 3))] 25)) := hb.alloc hb.size _
  have Y0 := Lib.hid (keep_blk hbA Z0.out)
  have Y1 := Lib.hid (heap_alloc_new w1 (.cells #[.int .u64 (Oc.U (Oc.mk (P) 0)), .int .u64 (Oc.U (Oc.mk (P) 1)), .int .u64 (Oc.U (Oc.mk (P) 2)), .int .u64 (Oc.U (Oc.mk (P) 3))] 25))
  have HB := Lib.hid (HB0.out.trans (hbA.mono HB0.out.size))
  have hlt : w.heap.size < w1.heap.size := by have := hb.size; have := HSZ.out; omega
  clear hb hbA he
  go_wp2_with (first
    | (refine wpList_load_row rfl 25 (.tmp 12) rfl (w1.heap.size) rfl 25 _ (0, 0) _ Y1.out Tryd.underlying25 rfl (by kernel_rfl) ?_)
    | fail)
  refine (HO.out _).mono ?_
  rintro e w3 ⟨rfl, hb⟩
  have Y0a := Lib.hid (keep_blk hb Y0.out)
  have Y1a := Lib.hid (keep_blk hb Y1.out)
  have HBa := Lib.hid (HB.out.trans (hb.mono HB.out.size))
  have Y0b : Hid ((w3.setRow w1.heap.size #[.int .u64 (Oc.U (Oc.mk (fun b => !(P) b) 0)), .int .u64 (Oc.U (Oc.mk (fun b => !(P) b) 1)), .int .u64 (Oc.U (Oc.mk (fun b => !(P) b) 2)), .int .u64 (Oc.U (Oc.mk (fun b => !(P) b) 3))]).heap[w.heap.size]? = some (.cells noSet 25)) := Lib.hid ((heap_setRow_other _ _ _ (by omega)).trans Y0a.out)
  have Y1b : Hid ((w3.setRow w1.heap.size #[.int .u64 (Oc.U (Oc.mk (fun b => !(P) b) 0)), .int .u64 (Oc.U (Oc.mk (fun b => !(P) b) 1)), .int .u64 (Oc.U (Oc.mk (fun b => !(P) b) 2)), .int .u64 (Oc.U (Oc.mk (fun b => !(P) b) 3))]).heap[w1.heap.size]? = some (.cells #[.int .u64 (Oc.U (Oc.mk (fun b => !(P) b) 0)), .int .u64 (Oc.U (Oc.mk (fun b => !(P) b) 1)), .int .u64 (Oc.U (Oc.mk (fun b => !(P) b) 2)), .int .u64 (Oc.U (Oc.mk (fun b => !(P) b) 3))] 25)) := Lib.hid (heap_setRow Y1a.out)
  have HBb : Hid (Below w.heap.size w (w3.setRow w1.heap.size #[.int .u64 (Oc.U (Oc.mk (fun b => !(P) b) 0)), .int .u64 (Oc.U (Oc.mk (fun b => !(P) b) 1)), .int .u64 (Oc.U (Oc.mk (fun b => !(P) b) 2)), .int .u64 (Oc.U (Oc.mk (fun b => !(P) b) 3))])) := Lib.hid (below_setRow HBa.out (Nat.le_of_lt hlt) _)
  clear hb
  go_wp2_with (first
    | (refine wpList_load_row rfl 25 (.tmp 12) rfl (w1.heap.size) rfl 25 _ (0, 0) _ Y1b.out Tryd.underlying25 rfl (by kernel_rfl) ?_)
    | (refine wpList_store_row rfl 25 (.tmp 12) (.tmp 62) rfl (w1.heap.size) #[.int .u64 (Oc.U (Oc.mk (fun b => !(P) b) 0)), .int .u64 (Oc.U (Oc.mk (fun b => !(P) b) 1)), .int .u64 (Oc.U (Oc.mk (fun b => !(P) b) 2)), .int .u64 (Oc.U (Oc.mk (fun b => !(P) b) 3))] rfl rfl 25 _ Y1a.out (by kernel_rfl) rfl setC_one ?_)
    | (refine wpList_store_row rfl 25 (.tmp 6) (.tmp 63) rfl (w.heap.size) #[.int .u64 (Oc.U (Oc.mk (fun b => !(P) b) 0)), .int .u64 (Oc.U (Oc.mk (fun b => !(P) b) 1)), .int .u64 (Oc.U (Oc.mk (fun b => !(P) b) 2)), .int .u64 (Oc.U (Oc.mk (fun b => !(P) b) 3))] rfl rfl 25 _ Y0b.out (by kernel_rfl) rfl setC_one ?_)
    | fail)
  exact bodyPost_ret (results_row_two rfl _ _ w.heap.size 25 #[.int .u64 (Oc.U (Oc.mk (fun b => !(P) b) 0)), .int .u64 (Oc.U (Oc.mk (fun b => !(P) b) 1)), .int .u64 (Oc.U (Oc.mk (fun b => !(P) b) 2)), .int .u64 (Oc.U (Oc.mk (fun b => !(P) b) 3))] (0, 0) _ _ _ rfl rfl rfl (heap_setRow Y0b.out) Tryd.underlying25 rfl (by kernel_rfl)) rfl ⟨by exact rfl, by exact below_setRow HBb.out (Nat.le_refl _) _⟩
set_option maxRecDepth 100000 in
set_option maxHeartbeats 4000000 in
theorem read_ok_true_nl (A : Nat → Addr) (s : ByteArray) (hs : s.size ≤ 4294967280) (a : Nat) (ha : bt s a = 91) (ht : (bt s (a + 1) == 94) = true) (P : Nat → Bool) (j : Nat) (hR : Br.items (bt s) s.size a (s.size + 1) (a + 2) (fun _ => false) false = .ok P j) (fl : Int) (hic : icB fl = false) (hnl : nlB fl = true) (w : World) (hE : BrEnv w A) :
    Calls Tryd.prog 7 #[.string s, .int .i64 a, .int .i64 fl] w (ReadEnd A (.ok (Br.fin false true true P) (j + 1)) w) := by
  have hjn := (Br.items_ok (bt_txt s) (by have := (bt_txt s).lt ha (by omega); have := (bt_txt s).lt (beq_iff_eq.1 ht) (by omega); omega) hR).2.1
  have hwj : IntKind.i64.wrap ((j : Int) + 1) = (j : Int) + 1 := IntWalk.i64_in _ (by omega)
  have hb2 := bit2 fl
  rw [hic] at hb2
  have hal := (bt_txt s).lt ha (by omega)
  have h0 : (0 : Int) ≤ a := by omega
  have h1 : decide (s.size ≤ a) = false := by simp; omega
  have e1 : ((s[a].toNat : Int) != 91) = false := by rw [bt_at hal, ha]; rfl
  have hw1 : IntKind.i64.wrap ((a : Int) + 1) = (a : Int) + 1 := IntWalk.i64_in _ (by omega)
  have hw2 : IntKind.i64.wrap ((a : Int) + 1 + 1) = (a : Int) + 1 + 1 := IntWalk.i64_in _ (by omega)
  have h3 : (0 : Int) ≤ (a : Int) + 1 := by omega
  have h4 : (a : Int) + 1 ≤ s.size := by omega
  have HC := Lib.hid (caret_at s (a + 1) _ ht)
  have hal2 := (bt_txt s).lt (beq_iff_eq.1 ht) (by omega)
  have hit := fun w hE => britems_any A s hs a (a + 2) (by omega) _ hR w hE
  rw [show ((a + 2 : Nat) : Int) = (a : Int) + 1 + 1 by omega] at hit
  have HI := Lib.hid hit; have HE := Lib.hid hE
  clear hit hE ha ht hR
  have HO := Lib.hid (others_nl (P) fl hnl)
  clear hnl
  clear hic
  go_enter Tryd.func7, Tryd.ntmps7
  go_wp2_with fail
  refine (HC.out _).mono ?_; rintro e w' ⟨rfl, rfl⟩
  go_wp2_with fail
  have hb0 : Below w.heap.size w ((w.alloc (.cells noSet 25)).alloc (.cells #[.string s, .int .i64 a] 45)) := by go_grown
  obtain ⟨z0, z1⟩ := two_new w (.cells noSet 25) (.cells #[.string s, .int .i64 a] 45)
  have hsz : ((w.alloc (.cells noSet 25)).alloc (.cells #[.string s, .int .i64 a] 45)).heap.size = w.heap.size + 2 := by simp
  generalize World.alloc (World.alloc _ _) _ = W at *
  have HB0 := Lib.hid hb0; have Z0 := Lib.hid z0; have HSZ := Lib.hid hsz
  clear hb0 z0 z1 hsz
  refine (HI.out _ (HE.out.below HB0.out)).mono ?_
  intro e w1 he
  obtain ⟨rfl, hb⟩ := he.ok rfl
  have hbA : Below W.heap.size W (w1.alloc (.cells #[.int .u64 (Oc.U (Oc.mk (P) 0)), .int .u64 (Oc.U (Oc.mk (P) 1)), .int .u64 (Oc.U (Oc.mk (P) 2)), .int .u64 (Oc.U (Oc.mk (P) 3))] 25)) := hb.alloc hb.size _
  have Y0 := Lib.hid (keep_blk hbA Z0.out)
  have Y1 := Lib.hid (heap_alloc_new w1 (.cells #[.int .u64 (Oc.U (Oc.mk (P) 0)), .int .u64 (Oc.U (Oc.mk (P) 1)), .int .u64 (Oc.U (Oc.mk (P) 2)), .int .u64 (Oc.U (Oc.mk (P) 3))] 25))
  have HB := Lib.hid (HB0.out.trans (hbA.mono HB0.out.size))
  have hlt : w.heap.size < w1.heap.size := by have := hb.size; have := HSZ.out; omega
  clear hb hbA he
  go_wp2_with (first
    | (refine wpList_load_row rfl 25 (.tmp 12) rfl (w1.heap.size) rfl 25 _ (0, 0) _ Y1.out Tryd.underlying25 rfl (by kernel_rfl) ?_)
    | fail)
  refine (HO.out _).mono ?_
  rintro e w3 ⟨rfl, hb⟩
  have Y0a := Lib.hid (keep_blk hb Y0.out)
  have Y1a := Lib.hid (keep_blk hb Y1.out)
  have HBa := Lib.hid (HB.out.trans (hb.mono HB.out.size))
  have Y0b : Hid ((w3.setRow w1.heap.size #[.int .u64 (Oc.U (Oc.mk (fun b => !(P) b && !(b == 10)) 0)), .int .u64 (Oc.U (Oc.mk (fun b => !(P) b && !(b == 10)) 1)), .int .u64 (Oc.U (Oc.mk (fun b => !(P) b && !(b == 10)) 2)), .int .u64 (Oc.U (Oc.mk (fun b => !(P) b && !(b == 10)) 3))]).heap[w.heap.size]? = some (.cells noSet 25)) := Lib.hid ((heap_setRow_other _ _ _ (by omega)).trans Y0a.out)
  have Y1b : Hid ((w3.setRow w1.heap.size #[.int .u64 (Oc.U (Oc.mk (fun b => !(P) b && !(b == 10)) 0)), .int .u64 (Oc.U (Oc.mk (fun b => !(P) b && !(b == 10)) 1)), .int .u64 (Oc.U (Oc.mk (fun b => !(P) b && !(b == 10)) 2)), .int .u64 (Oc.U (Oc.mk (fun b => !(P) b && !(b == 10)) 3))]).heap[w1.heap.size]? = some (.cells #[.int .u64 (Oc.U (Oc.mk (fun b => !(P) b && !(b == 10)) 0)), .int .u64 (Oc.U (Oc.mk (fun b => !(P) b && !(b == 10)) 1)), .int .u64 (Oc.U (Oc.mk (fun b => !(P) b && !(b == 10)) 2)), .int .u64 (Oc.U (Oc.mk (fun b => !(P) b && !(b == 10)) 3))] 25)) := Lib.hid (heap_setRow Y1a.out)
  have HBb : Hid (Below w.heap.size w (w3.setRow w1.heap.size #[.int .u64 (Oc.U (Oc.mk (fun b => !(P) b && !(b == 10)) 0)), .int .u64 (Oc.U (Oc.mk (fun b => !(P) b && !(b == 10)) 1)), .int .u64 (Oc.U (Oc.mk (fun b => !(P) b && !(b == 10)) 2)), .int .u64 (Oc.U (Oc.mk (fun b => !(P) b && !(b == 10)) 3))])) := Lib.hid (below_setRow HBa.out (Nat.le_of_lt hlt) _)
  clear hb
  go_wp2_with (first
    | (refine wpList_load_row rfl 25 (.tmp 12) rfl (w1.heap.size) rfl 25 _ (0, 0) _ Y1b.out Tryd.underlying25 rfl (by kernel_rfl) ?_)
    | (refine wpList_store_row rfl 25 (.tmp 12) (.tmp 62) rfl (w1.heap.size) #[.int .u64 (Oc.U (Oc.mk (fun b => !(P) b && !(b == 10)) 0)), .int .u64 (Oc.U (Oc.mk (fun b => !(P) b && !(b == 10)) 1)), .int .u64 (Oc.U (Oc.mk (fun b => !(P) b && !(b == 10)) 2)), .int .u64 (Oc.U (Oc.mk (fun b => !(P) b && !(b == 10)) 3))] rfl rfl 25 _ Y1a.out (by kernel_rfl) rfl setC_one ?_)
    | (refine wpList_store_row rfl 25 (.tmp 6) (.tmp 63) rfl (w.heap.size) #[.int .u64 (Oc.U (Oc.mk (fun b => !(P) b && !(b == 10)) 0)), .int .u64 (Oc.U (Oc.mk (fun b => !(P) b && !(b == 10)) 1)), .int .u64 (Oc.U (Oc.mk (fun b => !(P) b && !(b == 10)) 2)), .int .u64 (Oc.U (Oc.mk (fun b => !(P) b && !(b == 10)) 3))] rfl rfl 25 _ Y0b.out (by kernel_rfl) rfl setC_one ?_)
    | fail)
  exact bodyPost_ret (results_row_two rfl _ _ w.heap.size 25 #[.int .u64 (Oc.U (Oc.mk (fun b => !(P) b && !(b == 10)) 0)), .int .u64 (Oc.U (Oc.mk (fun b => !(P) b && !(b == 10)) 1)), .int .u64 (Oc.U (Oc.mk (fun b => !(P) b && !(b == 10)) 2)), .int .u64 (Oc.U (Oc.mk (fun b => !(P) b && !(b == 10)) 3))] (0, 0) _ _ _ rfl rfl rfl (heap_setRow Y0b.out) Tryd.underlying25 rfl (by kernel_rfl)) rfl ⟨by exact rfl, by exact below_setRow HBb.out (Nat.le_refl _) _⟩
set_option maxRecDepth 100000 in
set_option maxHeartbeats 4000000 in
theorem read_ok_true_ic_no (A : Nat → Addr) (s : ByteArray) (hs : s.size ≤ 4294967280) (a : Nat) (ha : bt s a = 91) (ht : (bt s (a + 1) == 94) = true) (P : Nat → Bool) (j : Nat) (hR : Br.items (bt s) s.size a (s.size + 1) (a + 2) (fun _ => false) false = .ok P j) (fl : Int) (hic : icB fl = true) (hnl : nlB fl = false) (w : World) (hE : BrEnv w A) :
    Calls Tryd.prog 7 #[.string s, .int .i64 a, .int .i64 fl] w (ReadEnd A (.ok (Br.fin true false true P) (j + 1)) w) := by
  have hjn := (Br.items_ok (bt_txt s) (by have := (bt_txt s).lt ha (by omega); have := (bt_txt s).lt (beq_iff_eq.1 ht) (by omega); omega) hR).2.1
  have hwj : IntKind.i64.wrap ((j : Int) + 1) = (j : Int) + 1 := IntWalk.i64_in _ (by omega)
  have hb2 := bit2 fl
  rw [hic] at hb2
  have hal := (bt_txt s).lt ha (by omega)
  have h0 : (0 : Int) ≤ a := by omega
  have h1 : decide (s.size ≤ a) = false := by simp; omega
  have e1 : ((s[a].toNat : Int) != 91) = false := by rw [bt_at hal, ha]; rfl
  have hw1 : IntKind.i64.wrap ((a : Int) + 1) = (a : Int) + 1 := IntWalk.i64_in _ (by omega)
  have hw2 : IntKind.i64.wrap ((a : Int) + 1 + 1) = (a : Int) + 1 + 1 := IntWalk.i64_in _ (by omega)
  have h3 : (0 : Int) ≤ (a : Int) + 1 := by omega
  have h4 : (a : Int) + 1 ≤ s.size := by omega
  have HC := Lib.hid (caret_at s (a + 1) _ ht)
  have hal2 := (bt_txt s).lt (beq_iff_eq.1 ht) (by omega)
  have hit := fun w hE => britems_any A s hs a (a + 2) (by omega) _ hR w hE
  rw [show ((a + 2 : Nat) : Int) = (a : Int) + 1 + 1 by omega] at hit
  have HI := Lib.hid hit; have HE := Lib.hid hE
  clear hit hE ha ht hR
  have HO := Lib.hid (others_no (Cl.fold P) fl hnl)
  clear hnl
  clear hic
  go_enter Tryd.func7, Tryd.ntmps7
  go_wp2_with fail
  refine (HC.out _).mono ?_; rintro e w' ⟨rfl, rfl⟩
  go_wp2_with fail
  have hb0 : Below w.heap.size w ((w.alloc (.cells noSet 25)).alloc (.cells #[.string s, .int .i64 a] 45)) := by go_grown
  obtain ⟨z0, z1⟩ := two_new w (.cells noSet 25) (.cells #[.string s, .int .i64 a] 45)
  have hsz : ((w.alloc (.cells noSet 25)).alloc (.cells #[.string s, .int .i64 a] 45)).heap.size = w.heap.size + 2 := by simp
  generalize World.alloc (World.alloc _ _) _ = W at *
  have HB0 := Lib.hid hb0; have Z0 := Lib.hid z0; have HSZ := Lib.hid hsz
  clear hb0 z0 z1 hsz
  refine (HI.out _ (HE.out.below HB0.out)).mono ?_
  intro e w1 he
  obtain ⟨rfl, hb⟩ := he.ok rfl
  have hbA : Below W.heap.size W (w1.alloc (.cells #[.int .u64 (Oc.U (Oc.mk (P) 0)), .int .u64 (Oc.U (Oc.mk (P) 1)), .int .u64 (Oc.U (Oc.mk (P) 2)), .int .u64 (Oc.U (Oc.mk (P) 3))] 25)) := hb.alloc hb.size _
  have Y0 := Lib.hid (keep_blk hbA Z0.out)
  have Y1 := Lib.hid (heap_alloc_new w1 (.cells #[.int .u64 (Oc.U (Oc.mk (P) 0)), .int .u64 (Oc.U (Oc.mk (P) 1)), .int .u64 (Oc.U (Oc.mk (P) 2)), .int .u64 (Oc.U (Oc.mk (P) 3))] 25))
  have HB := Lib.hid (HB0.out.trans (hbA.mono HB0.out.size))
  have hlt : w.heap.size < w1.heap.size := by have := hb.size; have := HSZ.out; omega
  clear hb hbA he
  go_wp2_with (first
    | (refine wpList_load_row rfl 25 (.tmp 12) rfl (w1.heap.size) rfl 25 _ (0, 0) _ Y1.out Tryd.underlying25 rfl (by kernel_rfl) ?_)
    | fail)
  refine (fold_p P _).mono ?_
  rintro e w2 ⟨rfl, hb⟩
  have Y0a := Lib.hid (keep_blk hb Y0.out)
  have Y1a := Lib.hid (keep_blk hb Y1.out)
  have HBa := Lib.hid (HB.out.trans (hb.mono HB.out.size))
  have Y0b : Hid ((w2.setRow w1.heap.size #[.int .u64 (Oc.U (Oc.mk (Cl.fold P) 0)), .int .u64 (Oc.U (Oc.mk (Cl.fold P) 1)), .int .u64 (Oc.U (Oc.mk (Cl.fold P) 2)), .int .u64 (Oc.U (Oc.mk (Cl.fold P) 3))]).heap[w.heap.size]? = some (.cells noSet 25)) := Lib.hid ((heap_setRow_other _ _ _ (by omega)).trans Y0a.out)
  have Y1b : Hid ((w2.setRow w1.heap.size #[.int .u64 (Oc.U (Oc.mk (Cl.fold P) 0)), .int .u64 (Oc.U (Oc.mk (Cl.fold P) 1)), .int .u64 (Oc.U (Oc.mk (Cl.fold P) 2)), .int .u64 (Oc.U (Oc.mk (Cl.fold P) 3))]).heap[w1.heap.size]? = some (.cells #[.int .u64 (Oc.U (Oc.mk (Cl.fold P) 0)), .int .u64 (Oc.U (Oc.mk (Cl.fold P) 1)), .int .u64 (Oc.U (Oc.mk (Cl.fold P) 2)), .int .u64 (Oc.U (Oc.mk (Cl.fold P) 3))] 25)) := Lib.hid (heap_setRow Y1a.out)
  have HBb : Hid (Below w.heap.size w (w2.setRow w1.heap.size #[.int .u64 (Oc.U (Oc.mk (Cl.fold P) 0)), .int .u64 (Oc.U (Oc.mk (Cl.fold P) 1)), .int .u64 (Oc.U (Oc.mk (Cl.fold P) 2)), .int .u64 (Oc.U (Oc.mk (Cl.fold P) 3))])) := Lib.hid (below_setRow HBa.out (Nat.le_of_lt hlt) _)
  clear hb
  go_wp2_with (first
    | (refine wpList_load_row rfl 25 (.tmp 12) rfl (w1.heap.size) rfl 25 _ (0, 0) _ Y1b.out Tryd.underlying25 rfl (by kernel_rfl) ?_)
    | (refine wpList_store_row rfl 25 (.tmp 12) (.tmp 58) rfl (w1.heap.size) #[.int .u64 (Oc.U (Oc.mk (Cl.fold P) 0)), .int .u64 (Oc.U (Oc.mk (Cl.fold P) 1)), .int .u64 (Oc.U (Oc.mk (Cl.fold P) 2)), .int .u64 (Oc.U (Oc.mk (Cl.fold P) 3))] rfl rfl 25 _ Y1a.out (by kernel_rfl) rfl setC_one ?_)
    | fail)
  refine (HO.out _).mono ?_
  rintro e w3 ⟨rfl, hb⟩
  have Y0ba := Lib.hid (keep_blk hb Y0b.out)
  have Y1ba := Lib.hid (keep_blk hb Y1b.out)
  have HBba := Lib.hid (HBb.out.trans (hb.mono HBb.out.size))
  have Y0bb : Hid ((w3.setRow w1.heap.size #[.int .u64 (Oc.U (Oc.mk (fun b => !(Cl.fold P) b) 0)), .int .u64 (Oc.U (Oc.mk (fun b => !(Cl.fold P) b) 1)), .int .u64 (Oc.U (Oc.mk (fun b => !(Cl.fold P) b) 2)), .int .u64 (Oc.U (Oc.mk (fun b => !(Cl.fold P) b) 3))]).heap[w.heap.size]? = some (.cells noSet 25)) := Lib.hid ((heap_setRow_other _ _ _ (by omega)).trans Y0ba.out)
  have Y1bb : Hid ((w3.setRow w1.heap.size #[.int .u64 (Oc.U (Oc.mk (fun b => !(Cl.fold P) b) 0)), .int .u64 (Oc.U (Oc.mk (fun b => !(Cl.fold P) b) 1)), .int .u64 (Oc.U (Oc.mk (fun b => !(Cl.fold P) b) 2)), .int .u64 (Oc.U (Oc.mk (fun b => !(Cl.fold P) b) 3))]).heap[w1.heap.size]? = some (.cells #[.int .u64 (Oc.U (Oc.mk (fun b => !(Cl.fold P) b) 0)), .int .u64 (Oc.U (Oc.mk (fun b => !(Cl.fold P) b) 1)), .int .u64 (Oc.U (Oc.mk (fun b => !(Cl.fold P) b) 2)), .int .u64 (Oc.U (Oc.mk (fun b => !(Cl.fold P) b) 3))] 25)) := Lib.hid (heap_setRow Y1ba.out)
  have HBbb : Hid (Below w.heap.size w (w3.setRow w1.heap.size #[.int .u64 (Oc.U (Oc.mk (fun b => !(Cl.fold P) b) 0)), .int .u64 (Oc.U (Oc.mk (fun b => !(Cl.fold P) b) 1)), .int .u64 (Oc.U (Oc.mk (fun b => !(Cl.fold P) b) 2)), .int .u64 (Oc.U (Oc.mk (fun b => !(Cl.fold P) b) 3))])) := Lib.hid (below_setRow HBba.out (Nat.le_of_lt hlt) _)
  clear hb
  go_wp2_with (first
    | (refine wpList_load_row rfl 25 (.tmp 12) rfl (w1.heap.size) rfl 25 _ (0, 0) _ Y1bb.out Tryd.underlying25 rfl (by kernel_rfl) ?_)
    | (refine wpList_store_row rfl 25 (.tmp 12) (.tmp 62) rfl (w1.heap.size) #[.int .u64 (Oc.U (Oc.mk (fun b => !(Cl.fold P) b) 0)), .int .u64 (Oc.U (Oc.mk (fun b => !(Cl.fold P) b) 1)), .int .u64 (Oc.U (Oc.mk (fun b => !(Cl.fold P) b) 2)), .int .u64 (Oc.U (Oc.mk (fun b => !(Cl.fold P) b) 3))] rfl rfl 25 _ Y1ba.out (by kernel_rfl) rfl setC_one ?_)
    | (refine wpList_store_row rfl 25 (.tmp 6) (.tmp 63) rfl (w.heap.size) #[.int .u64 (Oc.U (Oc.mk (fun b => !(Cl.fold P) b) 0)), .int .u64 (Oc.U (Oc.mk (fun b => !(Cl.fold P) b) 1)), .int .u64 (Oc.U (Oc.mk (fun b => !(Cl.fold P) b) 2)), .int .u64 (Oc.U (Oc.mk (fun b => !(Cl.fold P) b) 3))] rfl rfl 25 _ Y0bb.out (by kernel_rfl) rfl setC_one ?_)
    | fail)
  exact bodyPost_ret (results_row_two rfl _ _ w.heap.size 25 #[.int .u64 (Oc.U (Oc.mk (fun b => !(Cl.fold P) b) 0)), .int .u64 (Oc.U (Oc.mk (fun b => !(Cl.fold P) b) 1)), .int .u64 (Oc.U (Oc.mk (fun b => !(Cl.fold P) b) 2)), .int .u64 (Oc.U (Oc.mk (fun b => !(Cl.fold P) b) 3))] (0, 0) _ _ _ rfl rfl rfl (heap_setRow Y0bb.out) Tryd.underlying25 rfl (by kernel_rfl)) rfl ⟨by exact rfl, by exact below_setRow HBbb.out (Nat.le_refl _) _⟩
set_option maxRecDepth 100000 in
set_option maxHeartbeats 4000000 in
theorem read_ok_true_ic_nl (A : Nat → Addr) (s : ByteArray) (hs : s.size ≤ 4294967280) (a : Nat) (ha : bt s a = 91) (ht : (bt s (a + 1) == 94) = true) (P : Nat → Bool) (j : Nat) (hR : Br.items (bt s) s.size a (s.size + 1) (a + 2) (fun _ => false) false = .ok P j) (fl : Int) (hic : icB fl = true) (hnl : nlB fl = true) (w : World) (hE : BrEnv w A) :
    Calls Tryd.prog 7 #[.string s, .int .i64 a, .int .i64 fl] w (ReadEnd A (.ok (Br.fin true true true P) (j + 1)) w) := by
  have hjn := (Br.items_ok (bt_txt s) (by have := (bt_txt s).lt ha (by omega); have := (bt_txt s).lt (beq_iff_eq.1 ht) (by omega); omega) hR).2.1
  have hwj : IntKind.i64.wrap ((j : Int) + 1) = (j : Int) + 1 := IntWalk.i64_in _ (by omega)
  have hb2 := bit2 fl
  rw [hic] at hb2
  have hal := (bt_txt s).lt ha (by omega)
  have h0 : (0 : Int) ≤ a := by omega
  have h1 : decide (s.size ≤ a) = false := by simp; omega
  have e1 : ((s[a].toNat : Int) != 91) = false := by rw [bt_at hal, ha]; rfl
  have hw1 : IntKind.i64.wrap ((a : Int) + 1) = (a : Int) + 1 := IntWalk.i64_in _ (by omega)
  have hw2 : IntKind.i64.wrap ((a : Int) + 1 + 1) = (a : Int) + 1 + 1 := IntWalk.i64_in _ (by omega)
  have h3 : (0 : Int) ≤ (a : Int) + 1 := by omega
  have h4 : (a : Int) + 1 ≤ s.size := by omega
  have HC := Lib.hid (caret_at s (a + 1) _ ht)
  have hal2 := (bt_txt s).lt (beq_iff_eq.1 ht) (by omega)
  have hit := fun w hE => britems_any A s hs a (a + 2) (by omega) _ hR w hE
  rw [show ((a + 2 : Nat) : Int) = (a : Int) + 1 + 1 by omega] at hit
  have HI := Lib.hid hit; have HE := Lib.hid hE
  clear hit hE ha ht hR
  have HO := Lib.hid (others_nl (Cl.fold P) fl hnl)
  clear hnl
  clear hic
  go_enter Tryd.func7, Tryd.ntmps7
  go_wp2_with fail
  refine (HC.out _).mono ?_; rintro e w' ⟨rfl, rfl⟩
  go_wp2_with fail
  have hb0 : Below w.heap.size w ((w.alloc (.cells noSet 25)).alloc (.cells #[.string s, .int .i64 a] 45)) := by go_grown
  obtain ⟨z0, z1⟩ := two_new w (.cells noSet 25) (.cells #[.string s, .int .i64 a] 45)
  have hsz : ((w.alloc (.cells noSet 25)).alloc (.cells #[.string s, .int .i64 a] 45)).heap.size = w.heap.size + 2 := by simp
  generalize World.alloc (World.alloc _ _) _ = W at *
  have HB0 := Lib.hid hb0; have Z0 := Lib.hid z0; have HSZ := Lib.hid hsz
  clear hb0 z0 z1 hsz
  refine (HI.out _ (HE.out.below HB0.out)).mono ?_
  intro e w1 he
  obtain ⟨rfl, hb⟩ := he.ok rfl
  have hbA : Below W.heap.size W (w1.alloc (.cells #[.int .u64 (Oc.U (Oc.mk (P) 0)), .int .u64 (Oc.U (Oc.mk (P) 1)), .int .u64 (Oc.U (Oc.mk (P) 2)), .int .u64 (Oc.U (Oc.mk (P) 3))] 25)) := hb.alloc hb.size _
  have Y0 := Lib.hid (keep_blk hbA Z0.out)
  have Y1 := Lib.hid (heap_alloc_new w1 (.cells #[.int .u64 (Oc.U (Oc.mk (P) 0)), .int .u64 (Oc.U (Oc.mk (P) 1)), .int .u64 (Oc.U (Oc.mk (P) 2)), .int .u64 (Oc.U (Oc.mk (P) 3))] 25))
  have HB := Lib.hid (HB0.out.trans (hbA.mono HB0.out.size))
  have hlt : w.heap.size < w1.heap.size := by have := hb.size; have := HSZ.out; omega
  clear hb hbA he
  go_wp2_with (first
    | (refine wpList_load_row rfl 25 (.tmp 12) rfl (w1.heap.size) rfl 25 _ (0, 0) _ Y1.out Tryd.underlying25 rfl (by kernel_rfl) ?_)
    | fail)
  refine (fold_p P _).mono ?_
  rintro e w2 ⟨rfl, hb⟩
  have Y0a := Lib.hid (keep_blk hb Y0.out)
  have Y1a := Lib.hid (keep_blk hb Y1.out)
  have HBa := Lib.hid (HB.out.trans (hb.mono HB.out.size))
  have Y0b : Hid ((w2.setRow w1.heap.size #[.int .u64 (Oc.U (Oc.mk (Cl.fold P) 0)), .int .u64 (Oc.U (Oc.mk (Cl.fold P) 1)), .int .u64 (Oc.U (Oc.mk (Cl.fold P) 2)), .int .u64 (Oc.U (Oc.mk (Cl.fold P) 3))]).heap[w.heap.size]? = some (.cells noSet 25)) := Lib.hid ((heap_setRow_other _ _ _ (by omega)).trans Y0a.out)
  have Y1b : Hid ((w2.setRow w1.heap.size #[.int .u64 (Oc.U (Oc.mk (Cl.fold P) 0)), .int .u64 (Oc.U (Oc.mk (Cl.fold P) 1)), .int .u64 (Oc.U (Oc.mk (Cl.fold P) 2)), .int .u64 (Oc.U (Oc.mk (Cl.fold P) 3))]).heap[w1.heap.size]? = some (.cells #[.int .u64 (Oc.U (Oc.mk (Cl.fold P) 0)), .int .u64 (Oc.U (Oc.mk (Cl.fold P) 1)), .int .u64 (Oc.U (Oc.mk (Cl.fold P) 2)), .int .u64 (Oc.U (Oc.mk (Cl.fold P) 3))] 25)) := Lib.hid (heap_setRow Y1a.out)
  have HBb : Hid (Below w.heap.size w (w2.setRow w1.heap.size #[.int .u64 (Oc.U (Oc.mk (Cl.fold P) 0)), .int .u64 (Oc.U (Oc.mk (Cl.fold P) 1)), .int .u64 (Oc.U (Oc.mk (Cl.fold P) 2)), .int .u64 (Oc.U (Oc.mk (Cl.fold P) 3))])) := Lib.hid (below_setRow HBa.out (Nat.le_of_lt hlt) _)
  clear hb
  go_wp2_with (first
    | (refine wpList_load_row rfl 25 (.tmp 12) rfl (w1.heap.size) rfl 25 _ (0, 0) _ Y1b.out Tryd.underlying25 rfl (by kernel_rfl) ?_)
    | (refine wpList_store_row rfl 25 (.tmp 12) (.tmp 58) rfl (w1.heap.size) #[.int .u64 (Oc.U (Oc.mk (Cl.fold P) 0)), .int .u64 (Oc.U (Oc.mk (Cl.fold P) 1)), .int .u64 (Oc.U (Oc.mk (Cl.fold P) 2)), .int .u64 (Oc.U (Oc.mk (Cl.fold P) 3))] rfl rfl 25 _ Y1a.out (by kernel_rfl) rfl setC_one ?_)
    | fail)
  refine (HO.out _).mono ?_
  rintro e w3 ⟨rfl, hb⟩
  have Y0ba := Lib.hid (keep_blk hb Y0b.out)
  have Y1ba := Lib.hid (keep_blk hb Y1b.out)
  have HBba := Lib.hid (HBb.out.trans (hb.mono HBb.out.size))
  have Y0bb : Hid ((w3.setRow w1.heap.size #[.int .u64 (Oc.U (Oc.mk (fun b => !(Cl.fold P) b && !(b == 10)) 0)), .int .u64 (Oc.U (Oc.mk (fun b => !(Cl.fold P) b && !(b == 10)) 1)), .int .u64 (Oc.U (Oc.mk (fun b => !(Cl.fold P) b && !(b == 10)) 2)), .int .u64 (Oc.U (Oc.mk (fun b => !(Cl.fold P) b && !(b == 10)) 3))]).heap[w.heap.size]? = some (.cells noSet 25)) := Lib.hid ((heap_setRow_other _ _ _ (by omega)).trans Y0ba.out)
  have Y1bb : Hid ((w3.setRow w1.heap.size #[.int .u64 (Oc.U (Oc.mk (fun b => !(Cl.fold P) b && !(b == 10)) 0)), .int .u64 (Oc.U (Oc.mk (fun b => !(Cl.fold P) b && !(b == 10)) 1)), .int .u64 (Oc.U (Oc.mk (fun b => !(Cl.fold P) b && !(b == 10)) 2)), .int .u64 (Oc.U (Oc.mk (fun b => !(Cl.fold P) b && !(b == 10)) 3))]).heap[w1.heap.size]? = some (.cells #[.int .u64 (Oc.U (Oc.mk (fun b => !(Cl.fold P) b && !(b == 10)) 0)), .int .u64 (Oc.U (Oc.mk (fun b => !(Cl.fold P) b && !(b == 10)) 1)), .int .u64 (Oc.U (Oc.mk (fun b => !(Cl.fold P) b && !(b == 10)) 2)), .int .u64 (Oc.U (Oc.mk (fun b => !(Cl.fold P) b && !(b == 10)) 3))] 25)) := Lib.hid (heap_setRow Y1ba.out)
  have HBbb : Hid (Below w.heap.size w (w3.setRow w1.heap.size #[.int .u64 (Oc.U (Oc.mk (fun b => !(Cl.fold P) b && !(b == 10)) 0)), .int .u64 (Oc.U (Oc.mk (fun b => !(Cl.fold P) b && !(b == 10)) 1)), .int .u64 (Oc.U (Oc.mk (fun b => !(Cl.fold P) b && !(b == 10)) 2)), .int .u64 (Oc.U (Oc.mk (fun b => !(Cl.fold P) b && !(b == 10)) 3))])) := Lib.hid (below_setRow HBba.out (Nat.le_of_lt hlt) _)
  clear hb
  go_wp2_with (first
    | (refine wpList_load_row rfl 25 (.tmp 12) rfl (w1.heap.size) rfl 25 _ (0, 0) _ Y1bb.out Tryd.underlying25 rfl (by kernel_rfl) ?_)
    | (refine wpList_store_row rfl 25 (.tmp 12) (.tmp 62) rfl (w1.heap.size) #[.int .u64 (Oc.U (Oc.mk (fun b => !(Cl.fold P) b && !(b == 10)) 0)), .int .u64 (Oc.U (Oc.mk (fun b => !(Cl.fold P) b && !(b == 10)) 1)), .int .u64 (Oc.U (Oc.mk (fun b => !(Cl.fold P) b && !(b == 10)) 2)), .int .u64 (Oc.U (Oc.mk (fun b => !(Cl.fold P) b && !(b == 10)) 3))] rfl rfl 25 _ Y1ba.out (by kernel_rfl) rfl setC_one ?_)
    | (refine wpList_store_row rfl 25 (.tmp 6) (.tmp 63) rfl (w.heap.size) #[.int .u64 (Oc.U (Oc.mk (fun b => !(Cl.fold P) b && !(b == 10)) 0)), .int .u64 (Oc.U (Oc.mk (fun b => !(Cl.fold P) b && !(b == 10)) 1)), .int .u64 (Oc.U (Oc.mk (fun b => !(Cl.fold P) b && !(b == 10)) 2)), .int .u64 (Oc.U (Oc.mk (fun b => !(Cl.fold P) b && !(b == 10)) 3))] rfl rfl 25 _ Y0bb.out (by kernel_rfl) rfl setC_one ?_)
    | fail)
  exact bodyPost_ret (results_row_two rfl _ _ w.heap.size 25 #[.int .u64 (Oc.U (Oc.mk (fun b => !(Cl.fold P) b && !(b == 10)) 0)), .int .u64 (Oc.U (Oc.mk (fun b => !(Cl.fold P) b && !(b == 10)) 1)), .int .u64 (Oc.U (Oc.mk (fun b => !(Cl.fold P) b && !(b == 10)) 2)), .int .u64 (Oc.U (Oc.mk (fun b => !(Cl.fold P) b && !(b == 10)) 3))] (0, 0) _ _ _ rfl rfl rfl (heap_setRow Y0bb.out) Tryd.underlying25 rfl (by kernel_rfl)) rfl ⟨by exact rfl, by exact below_setRow HBbb.out (Nat.le_refl _) _⟩
theorem readDoes : BrDoes where
  read A s at_ fl w hE hs h0 h1 := by
    unfold rdI Br.read
    by_cases h : 0 ≤ at_ ∧ bt s at_.toNat = 91
    · rw [if_pos h]
      obtain ⟨a, rfl⟩ : ∃ a : Nat, at_ = a := ⟨at_.toNat, by omega⟩
      have ha : bt s a = 91 := h.2
      show Calls _ _ _ _ (ReadEnd A (Br.whole (bt s) s.size a (icB fl) (nlB fl)) w)
      unfold Br.whole
      cases ht : (bt s (a + 1) == 94) with
      | true =>
        simp only [if_true]
        cases hR : Br.items (bt s) s.size a (s.size + 1) (a + 2) (fun _ => false) false with
        | err c q => exact read_err_true A s hs a ha ht c q hR fl w hE
        | ok P j =>
          show Calls _ _ _ _ (ReadEnd A (.ok (Br.fin (icB fl) (nlB fl) true P) (j + 1)) w)
          cases hic : icB fl <;> cases hnl : nlB fl
          · exact read_ok_true_no A s hs a ha ht P j hR fl hic hnl w hE
          · exact read_ok_true_nl A s hs a ha ht P j hR fl hic hnl w hE
          · exact read_ok_true_ic_no A s hs a ha ht P j hR fl hic hnl w hE
          · exact read_ok_true_ic_nl A s hs a ha ht P j hR fl hic hnl w hE
      | false =>
        simp only [Bool.false_eq_true, if_false]
        cases hR : Br.items (bt s) s.size a (s.size + 1) (a + 1) (fun _ => false) false with
        | err c q => exact read_err_false A s hs a ha ht c q hR fl w hE
        | ok P j =>
          show Calls _ _ _ _ (ReadEnd A (.ok (Br.fin (icB fl) (nlB fl) false P) (j + 1)) w)
          cases hic : icB fl
          · exact read_ok_false A s hs a ha ht P j hR fl hic _ w hE
          · exact read_ok_false_ic A s hs a ha ht P j hR fl hic _ w hE
    · rw [if_neg h]
      by_cases hn : at_ < 0
      · exact read_neg A s hs at_ hn fl w hE
      · obtain ⟨a, rfl⟩ : ∃ a : Nat, at_ = a := ⟨at_.toNat, by omega⟩
        by_cases hf : s.size ≤ a
        · exact read_far A s hs a hf fl w hE
        · exact read_other A s hs a (by omega) (fun hh => h ⟨by omega, hh⟩) fl w hE
end Go.Proofs.YtbpecijdmhablaaDoor
