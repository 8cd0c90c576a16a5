/- What is proved: whatever the byte and the text, the law EreEscapes returns true, and each argument reads behind the call as it read before. Conditions: the listed variables read as the program's text says (tied). -/
import Derived.Test.YtlbhbjmobcikfaaGreatDoorEpA
import Derived.Test.YtlbhbjmobcikfaaGreatDoorEpB
import Derived.Laws.IdiomStrings
import Derived.Deep.MidRow
import Derived.Test.YtlbhbjmobcikfaaGreatDoorOcWalks2
import Derived.ProofKit
import Derived.OpenShut
import Derived.ChangeOld
import Derived.Deep.Slices
import Derived.Laws.IdiomArrays
import Derived.Lib.SmallJoins
import Derived.Test.YtlbhbjmobcikfaaGreatDoorErPlace
import Derived.Lib.LaidTab
import Derived.Lib.ItoaNum
import Derived.Lib.AppendIntMem
import Derived.Test.YtlbhbjmobcikfaaGreatDoorErAll
import Derived.LaidHandle
import Derived.LaidLaws
import Derived.Test.YtlbhbjmobcikfaaGreatDoorCards
import Derived.Test.YtlbhbjmobcikfaaGreatDoorTie
import Derived.SizedLaws
import Derived.ChangeMaps5
import Derived.SevenTiedAt
import Derived.Deep.DeepWitnessRowRef
/- What is read of an escape alone, and of letters with a backslash behind them. Nothing of the program. -/
namespace Go.Proofs.YtlbhbjmobcikfaaGreatDoor
namespace Ep
theorem two_yes {f : Nat → Nat} (h0 : f 0 = 92) (h2 : f 2 = 256) (hc : Cl.cls 8 (f 1) = true) : parse f 2 false false = .ok (one false (f 1)) 2 0 := by
  have hsz : ¬ 2000 < (one false (f 1)).szT := by unfold one Tr.bytes; rw [Tr.szT, if_neg (by omega), Tr.szS]; decide
  simp only [parse, whole, pat, alts, branch, piece, atom, rep, h0, hc, Tr.several, isRep]
  simp [hsz, h2]
theorem two_no {f : Nat → Nat} (h0 : f 0 = 92) (hc : Cl.cls 8 (f 1) = false) : parse f 2 false false = .err 8 0 := by
  simp only [parse, whole, pat, alts, branch, piece, atom, h0, hc, isRep]
  simp
/-- Letters are read one by one. -/
theorem branch_letters {f : Nat → Nat} {m : Nat} {ic nl : Bool} {H : Nat → Nat → Out} (h : ∀ j, j < m → 97 ≤ f j ∧ f j ≤ 122) (hm : f m = 92) (he : f (m + 1) = 256) : ∀ {k : Nat} {l : List Tr} {i g : Nat}, i ≤ m → m - i < k → branch f (m + 1) ic nl H k l i g = .err 8 m
  | 0, _, _, _, _, hk => by omega
  | k + 1, l, i, g, hi, hk => by
    unfold branch
    by_cases e : i = m
    · subst e
      have hcls : Cl.cls 8 256 = false := by decide
      rw [if_neg (by omega)]
      simp only [piece, atom, hm, he, hcls, isRep]
      simp
    · have hl := h i (by omega)
      have hn : 97 ≤ f (i + 1) ∧ f (i + 1) ≤ 122 ∨ f (i + 1) = 92 := by
        by_cases e2 : i + 1 = m
        · rw [e2]; exact .inr hm
        · exact .inl (h (i + 1) (by omega))
      have hp : piece f (m + 1) ic nl H i g = .ok (one ic (f i)) (i + 1) g := by
        unfold piece
        rw [if_neg (by omega), if_neg (by omega)]
        have hr : isRep (f i) = false := by unfold isRep; simp; omega
        rw [hr]
        simp only [Bool.false_eq_true, if_false]
        unfold atom
        rw [if_neg (by omega), if_neg (by omega), if_neg (by omega), if_neg (by omega)]
        show rep f (m + 1) (one ic (f i)) (i + 1) g = _
        unfold rep
        rw [if_neg (by omega), if_neg (by omega), if_neg (by omega), if_neg (by omega)]
      rw [if_neg (by omega), hp]
      exact branch_letters h hm he (by omega) (by omega)
theorem letters_no {f : Nat → Nat} {m : Nat} {ic nl : Bool} (h : ∀ j, j < m → 97 ≤ f j ∧ f j ≤ 122) (hm : f m = 92) (he : f (m + 1) = 256) (hl : m ≤ 1000) : parse f (m + 1) ic nl = .err 8 m := by
  unfold parse whole pat alts
  rw [if_neg (by omega), branch_letters h hm he (by omega) (by omega)]
end Ep
/-- The text of a backslash and a byte. -/
theorem bt_esc (c : UInt8) : (bt (⟨#[92]⟩ ++ ⟨#[c]⟩) 0 = 92 ∧ bt (⟨#[92]⟩ ++ ⟨#[c]⟩) 1 = c.toNat ∧ bt (⟨#[92]⟩ ++ ⟨#[c]⟩) 2 = 256) ∧ (⟨#[92]⟩ ++ ⟨#[c]⟩ : ByteArray).size = 2 := by
  refine ⟨⟨?_, ?_, ?_⟩, rfl⟩
  · rw [bt_append, if_pos (by decide)]; decide
  · rw [bt_append, if_neg (by decide)]; rfl
  · exact bt_out (Nat.le_refl 2)
theorem bt_letters (x : ByteArray) : (∀ j, j < x.size → bt (x ++ ⟨#[92]⟩) j = bt x j) ∧ bt (x ++ ⟨#[92]⟩) x.size = 92 ∧ bt (x ++ ⟨#[92]⟩) (x.size + 1) = 256 ∧ (x ++ ⟨#[92]⟩ : ByteArray).size = x.size + 1 := by
  have hs : (x ++ ⟨#[92]⟩ : ByteArray).size = x.size + 1 := ByteArray.size_append
  refine ⟨fun j hj => by rw [bt_append, if_pos hj], ?_, bt_out (by omega), hs⟩
  rw [bt_append, if_neg (by omega), Nat.sub_self]; decide
end Go.Proofs.YtlbhbjmobcikfaaGreatDoor
/- What the reader of extended patterns answers of a branch. -/
namespace Go.Proofs.YtlbhbjmobcikfaaGreatDoor
open Go.RowKit
/-- A list of nodes that a call has made so far, the lists below lying elsewhere. -/
structure RowAt (w : World) (base : Nat) (v : Value) (ps : List (Tr × Value)) : Prop where
  own : w.ownsRow base 28 10 v ps.length (rowOf ps)
  subs : ∀ (i : Nat) (t : Tr) (s : Value), ps[i]? = some (t, s) → TreesAt w (fun b => base ≤ b ∧ v.ownBlock ≠ some b) s t.subs
theorem RowAt.nil (w : World) (base : Nat) : RowAt w base (.slice none 0 0) [] := ⟨World.ownsRow_nil _ _ _ _, fun i t s h => by simp at h⟩
theorem RowAt.touch {w w' : World} {base : Nat} {v : Value} {ps : List (Tr × Value)} {R : Nat} (h : RowAt w base v ps) (ht : Touch [R] w w') (hR : R < base) : RowAt w' base v ps := by
  refine ⟨h.own.kept (w' := w') (row := some R) ⟨ht.os, ht.tape, ht.output, ht.size, fun k hk hne => ht.block k hk (by simp; exact fun e => hne (by rw [e]))⟩ ?_, fun i t s hi => (h.subs i t s hi).keep fun b hb hB => ht.block b hb (by simp; omega)⟩
  cases hv : v.ownBlock with
  | none => exact .inl rfl
  | some g => exact .inr fun e => by have := (h.own.lt g hv).1; have := Option.some.inj e; omega
theorem RowAt.later {w w' : World} {base : Nat} {v : Value} {ps : List (Tr × Value)} (h : RowAt w base v ps) (hb : Below w.heap.size w w') : RowAt w' base v ps := by
  refine ⟨h.own.kept (w' := w') (row := none) ⟨hb.os, hb.tape, hb.output, hb.size, fun k hk _ => hb.block k hk⟩ ?_, fun i t s hi => (h.subs i t s hi).later hb⟩
  cases hv : v.ownBlock with
  | none => exact .inl rfl
  | some g => exact .inr (by simp)
theorem RowAt.trees {w : World} {base : Nat} {v : Value} {ps : List (Tr × Value)} (h : RowAt w base v ps) (hn : ps.length * 96 ≤ 140737488351232) : TreesAt w (fun b => base ≤ b) v (ps.map (·.1)) :=
  trees_of_row h.own hn h.subs (fun _ hb => hb.1) (fun g hg => (h.own.lt g hg).1)
theorem RowAt.snoc {w w4 : World} {base : Nat} {v v' : Value} {ps : List (Tr × Value)} {x : Tr} {s : Value} (h : RowAt w base v ps) (hx : TreesAt w (fun b => base ≤ b ∧ v.ownBlock ≠ some b) s x.subs)
    (ho : w4.ownsRow base 28 10 v' (ps.length + 1) (rowOf ps ++ (x.cells s).toList)) (hg : w.grownBy w4 v.ownBlock) (hw : v'.ownBlock = v.ownBlock ∨ v'.ownBlock = some w.heap.size) : RowAt w4 base v' (ps ++ [(x, s)]) := by
  refine ⟨by rw [rowOf_snoc, List.length_append]; exact ho, fun i t s' hi => ?_⟩
  by_cases hip : i < ps.length
  · rw [List.getElem?_append_left hip] at hi
    exact subs_step (h.subs i t s' hi) hg hw
  · rw [List.getElem?_append_right (by omega)] at hi
    have hi0 : i - ps.length = 0 := by
      by_cases h0 : i - ps.length = 0
      · exact h0
      · rw [List.getElem?_eq_none (by simp; omega)] at hi; cases hi
    rw [hi0] at hi
    simp only [List.getElem?_cons_zero, Option.some.injEq, Prod.mk.injEq] at hi
    obtain ⟨rfl, rfl⟩ := hi
    exact subs_step hx hg hw
theorem RowAt.len {w : World} {base : Nat} {v : Value} {ps : List (Tr × Value)} (h : RowAt w base v ps) : ∃ q c, v = .slice q ps.length c := by
  rcases h.own.2 with ⟨rfl, hn⟩ | ⟨g, cap, cur, rfl, -⟩
  · exact ⟨none, 0, by rw [hn]⟩
  · exact ⟨_, _, rfl⟩
theorem Touch.grown {F : List Nat} {a w w' : World} {row : Option Nat} (h : Touch F a w) (hg : w.grownBy w' row) (hr : ∀ k, row = some k → a.heap.size ≤ k) : Touch F a w' :=
  ⟨hg.os.trans h.os, hg.tape.trans h.tape, hg.output.trans h.output, Nat.le_trans h.size hg.size, fun k hk hn => (hg.block k (Nat.lt_of_lt_of_le hk h.size) (fun e => by have := hr k e.symm; omega)).trans (h.block k hk hn)⟩
theorem place_of {w : World} {R : Nat} {s : ByteArray} {fl : Int} {i g d : Nat} (h : w.heap[R]? = some (.cells (rdC s fl i g d) 54)) : (match w.cell? ⟨R, 2, none⟩ with | some (.int _ n) => n.toNat | _ => 0) = i := by
  rw [(rd5 h).2.2.1]; simp
/-- The place that the reader has reached, as a number. -/
def placeOf (R : Nat) (w : World) : Nat := match w.cell? ⟨R, 2, none⟩ with | some (.int _ n) => n.toNat | _ => 0
theorem placeOf_is {w : World} {R : Nat} {s : ByteArray} {fl : Int} {i g d : Nat} (h : w.heap[R]? = some (.cells (rdC s fl i g d) 54)) : placeOf R w = i := place_of h
set_option maxRecDepth 100000 in
set_option maxHeartbeats 8000000 in
theorem branch_any (w0 : World) (A : Nat → Addr) (w : World) (R : Nat) (s : ByteArray) (hs : s.size ≤ 4294967280) (fl : Int) (i0 g0 d : Nat) (hR : RdAt w0 A w R s fl i0 g0 d) (hi : i0 ≤ s.size) (H : Nat → Nat → Ep.Out) (hA : Ep.Ahead s.size H) (hH : Ep.Right s.size d H) (hg : 2 * g0 ≤ i0 + d)
    (HG : ∀ i g w, i < s.size → 2 * g ≤ i + d → bt s i = 40 → RdAt w0 A w R s fl i g d → Calls Tryz.prog 132 #[.pointer (some ⟨R, 0, none⟩)] w (NdEnd A R s fl d (H i g) w))
    (O : Ep.Out) (hO : Ep.branch (bt s) s.size (icB fl) (nlB fl) H (s.size + 1) [] i0 g0 = O) :
    Calls Tryz.prog 68 #[.pointer (some ⟨R, 0, none⟩)] w (NdEnd A R s fl d O w) := by
  have hlt := hR.lt
  have hb0 : Below w.heap.size w (w.alloc (.cells noNode 28)) := (Below.refl _ _).alloc (Nat.le_refl _) _
  have HR1 := Lib.hid (hR.later hb0)
  have Z0 := Lib.hid (heap_alloc_new w (.cells noNode 28))
  have HB0 := Lib.hid hb0
  have HO := Lib.hid hO; have HAA := Lib.hid hA; have HHH := Lib.hid hH; have HGG := Lib.hid HG
  clear hR hb0 hO hA hH HG
  go_enter Tryz.func68, Tryz.ntmps68
  obtain ⟨ie, hi0, hz0, hz1, hz2⟩ := info_parts Tryz.infoNode
  have HI := Lib.hid hi0; have HZ0 := Lib.hid hz0; have HZ1 := Lib.hid hz1; have HZ2 := Lib.hid hz2
  clear hi0 hz0 hz1 hz2
  go_wp2
  go_loopw [4] (fun sv wr => ∃ (k : Nat) (ps : List (Tr × Value)) (i g : Nat), s.size - i < k ∧ i ≤ s.size ∧ 2 * g ≤ i + d ∧ ps.length ≤ i ∧ Hid (Ep.branch (bt s) s.size (icB fl) (nlB fl) H k (ps.map (·.1)) i g = O) ∧ Hid (RdAt w0 A wr R s fl i g d) ∧ Hid (Touch [R] w wr) ∧
    Hid (wr.heap[w.heap.size]? = some (.cells noNode 28)) ∧ w.heap.size < wr.heap.size ∧ Hid (RowAt wr (w.heap.size + 1) sv ps)) (fun _ wr => s.size - placeOf R wr)
  case atStart => exact ⟨s.size + 1, [], i0, g0, by omega, hi, hg, Nat.zero_le _, HO, HR1, Lib.hid (Touch.of_below _ HB0.out), Z0, by simp, Lib.hid (RowAt.nil _ _)⟩
  case round =>
    obtain ⟨k, ps, i, g, hk, hil, hgl, hpl, HBR, HR, HT, Z, hsz, HROW⟩ := hrel
    obtain ⟨k, rfl⟩ : ∃ m, k = m + 1 := ⟨k - 1, by omega⟩
    have hbr := HBR.out
    unfold Ep.branch at hbr
    obtain ⟨c0, c1, c2, -, -⟩ := rd5 HR.out.cell
    have HPL := Lib.hid (placeOf_is HR.out.cell)
    have hsx : ∀ n, (wr.drewN n).heap.size = wr.heap.size := fun _ => rfl
    by_cases hend : s.size ≤ i ∨ bt s i = 124 ∨ bt s i = 41
    · rw [if_pos hend] at hbr
      subst hbr
      obtain ⟨q4, c4, hu4⟩ := HROW.out.len
      subst hu4
      have hcase : (s.size ≤ i) ∨ (i < s.size ∧ [124, 41].any (fun c : UInt8 => c.toNat == bt s i) = true) := by
        rcases hend with h | h | h
        · exact .inl h
        · exact .inr ⟨(bt_txt s).lt h (by omega), by rw [h]; decide⟩
        · exact .inr ⟨(bt_txt s).lt h (by omega), by rw [h]; decide⟩
      clear hend
      rcases hcase with hge | ⟨hlt2, hany⟩
      · have hd : decide ((i : Int) < s.size) = false := by simp; omega
        have hd' : decide (i < s.size) = false := by simp; omega
        go_wp2
        go_quiet (fail)
        have HROW2 := Lib.hid ((HROW.out.later (drewN_below (Below.refl _ _) nq)).trees (by omega))
        have HR2 := Lib.hid (HR.out.later (drewN_below (Below.refl _ _) nq))
        have HT2 := Lib.hid (HT.out.drewN nq)
        have Z2 : Hid ((wr.drewN nq).heap[w.heap.size]? = some (.cells noNode 28)) := Lib.hid Z.out
        have hsz2 : w.heap.size < (wr.drewN nq).heap.size := hsz
        clear c0 c1 c2 HROW HR HT Z HPL HBR hsx
        generalize World.drewN _ _ = W at *
        go_wp2_with fail
        have hlm : (ps.map (·.1)).length = ps.length := List.length_map _
        rw [← hlm] at HROW2
        have hseq := seq_any (ps.map (·.1)) W _ _ HROW2.out
        obtain ⟨T, hTE⟩ : ∃ T, Tr.several 5 (ps.map (·.1)) = T := ⟨_, rfl⟩
        rw [hTE, hlm] at hseq
        have HTE := Lib.hid hTE
        clear hTE hlm
        refine hseq.mono ?_
        rintro e w3 ⟨s3, F3, rfl, ho3, hF3, hb3⟩
        obtain ⟨p3, c3, rfl, hl3⟩ := ho3.slice
        have HO3 := Lib.hid ho3
        have HF3 := Lib.hid hF3
        have Z3 := Lib.hid (keep_blk hb3 Z2.out)
        have HR3 := Lib.hid (HR2.out.later hb3)
        have HT3 := Lib.hid (HT2.out.later hb3)
        have hRne : R ≠ w.heap.size := by omega
        have hk1 : ∀ b, b ∈ F3 → b ≠ w.heap.size := fun b hb => by have := hF3 b hb; omega
        have hk2 : ∀ b, b ∈ F3 → w.heap.size ≤ b := fun b hb => by have := hF3 b hb; omega
        have HK1 := Lib.hid hk1; have HK2 := Lib.hid hk2
        clear hseq hk1 hk2 ho3 hF3 hb3 HROW2 HR2 HT2 Z2
        unfold Tr.cells
        go_wp2_with (first
            | (refine wpList_store_row rfl 28 (.tmp 2) (.tmp 36) rfl w.heap.size #[.int .i64 (T).kind, .int .u64 (Oc.U (T).w0), .int .u64 (Oc.U (T).w1), .int .u64 (Oc.U (T).w2), .int .u64 (Oc.U (T).w3), .slice p3 T.subs.length c3, .int .i64 (T).num, .int .i64 (T).least, .int .i64 (T).most, .bool (T).bare] rfl rfl 28 _ Z3.out (by kernel_rfl) rfl (by simp [Value.oneCell']) ?_)
            | fail)
        refine bodyPost_ret (results_row_1 rfl _ _ w.heap.size 28 #[.int .i64 (T).kind, .int .u64 (Oc.U (T).w0), .int .u64 (Oc.U (T).w1), .int .u64 (Oc.U (T).w2), .int .u64 (Oc.U (T).w3), .slice p3 T.subs.length c3, .int .i64 (T).num, .int .i64 (T).least, .int .i64 (T).most, .bool (T).bare] (0, 0) _ _ rfl rfl (heap_setRow Z3.out) Tryz.underlying28 rfl (by kernel_rfl)) rfl ⟨⟨.slice p3 T.subs.length c3, F3, ?_, ?_, HK2.out, (heap_setRow_other _ _ _ hRne).trans HR3.out.cell⟩, HT3.out.setRow_new (Nat.le_refl _) _⟩
        · rw [HTE.out]; rfl
        · rw [HTE.out]; exact HO3.out.keep fun b hb => heap_setRow_other _ _ _ (HK1.out b hb)
      · have hd : decide ((i : Int) < s.size) = true := by simp; omega
        have hd' : decide (i < s.size) = true := by simp; omega
        have HST := Lib.hid (fun n => stands_any [124, 41] true w0 A (wr.drewN n) R s fl i g d (HR.out.later (drewN_below (Below.refl _ _) n)) hany)
        clear hany
        go_wp2
        go_quiet ((go_at_call 69; exact Calls.quiet_of (HST.out _)))
        have HROW2 := Lib.hid ((HROW.out.later (drewN_below (Below.refl _ _) nq)).trees (by omega))
        have HR2 := Lib.hid (HR.out.later (drewN_below (Below.refl _ _) nq))
        have HT2 := Lib.hid (HT.out.drewN nq)
        have Z2 : Hid ((wr.drewN nq).heap[w.heap.size]? = some (.cells noNode 28)) := Lib.hid Z.out
        have hsz2 : w.heap.size < (wr.drewN nq).heap.size := hsz
        clear c0 c1 c2 HROW HR HT Z HPL HBR hsx
        generalize World.drewN _ _ = W at *
        go_wp2_with fail
        have hlm : (ps.map (·.1)).length = ps.length := List.length_map _
        rw [← hlm] at HROW2
        have hseq := seq_any (ps.map (·.1)) W _ _ HROW2.out
        obtain ⟨T, hTE⟩ : ∃ T, Tr.several 5 (ps.map (·.1)) = T := ⟨_, rfl⟩
        rw [hTE, hlm] at hseq
        have HTE := Lib.hid hTE
        clear hTE hlm
        refine hseq.mono ?_
        rintro e w3 ⟨s3, F3, rfl, ho3, hF3, hb3⟩
        obtain ⟨p3, c3, rfl, hl3⟩ := ho3.slice
        have HO3 := Lib.hid ho3
        have HF3 := Lib.hid hF3
        have Z3 := Lib.hid (keep_blk hb3 Z2.out)
        have HR3 := Lib.hid (HR2.out.later hb3)
        have HT3 := Lib.hid (HT2.out.later hb3)
        have hRne : R ≠ w.heap.size := by omega
        have hk1 : ∀ b, b ∈ F3 → b ≠ w.heap.size := fun b hb => by have := hF3 b hb; omega
        have hk2 : ∀ b, b ∈ F3 → w.heap.size ≤ b := fun b hb => by have := hF3 b hb; omega
        have HK1 := Lib.hid hk1; have HK2 := Lib.hid hk2
        clear hseq hk1 hk2 ho3 hF3 hb3 HROW2 HR2 HT2 Z2
        unfold Tr.cells
        go_wp2_with (first
            | (refine wpList_store_row rfl 28 (.tmp 2) (.tmp 36) rfl w.heap.size #[.int .i64 (T).kind, .int .u64 (Oc.U (T).w0), .int .u64 (Oc.U (T).w1), .int .u64 (Oc.U (T).w2), .int .u64 (Oc.U (T).w3), .slice p3 T.subs.length c3, .int .i64 (T).num, .int .i64 (T).least, .int .i64 (T).most, .bool (T).bare] rfl rfl 28 _ Z3.out (by kernel_rfl) rfl (by simp [Value.oneCell']) ?_)
            | fail)
        refine bodyPost_ret (results_row_1 rfl _ _ w.heap.size 28 #[.int .i64 (T).kind, .int .u64 (Oc.U (T).w0), .int .u64 (Oc.U (T).w1), .int .u64 (Oc.U (T).w2), .int .u64 (Oc.U (T).w3), .slice p3 T.subs.length c3, .int .i64 (T).num, .int .i64 (T).least, .int .i64 (T).most, .bool (T).bare] (0, 0) _ _ rfl rfl (heap_setRow Z3.out) Tryz.underlying28 rfl (by kernel_rfl)) rfl ⟨⟨.slice p3 T.subs.length c3, F3, ?_, ?_, HK2.out, (heap_setRow_other _ _ _ hRne).trans HR3.out.cell⟩, HT3.out.setRow_new (Nat.le_refl _) _⟩
        · rw [HTE.out]; rfl
        · rw [HTE.out]; exact HO3.out.keep fun b hb => heap_setRow_other _ _ _ (HK1.out b hb)
    · rw [if_neg hend] at hbr
      have hlt2 : i < s.size := by omega
      have hany : [124, 41].any (fun c : UInt8 => c.toNat == bt s i) = false := by
        simp only [List.any_cons, List.any_nil, Bool.or_false]
        simp only [show (124 : UInt8).toNat = 124 from rfl, show (41 : UInt8).toNat = 41 from rfl]
        simp; omega
      have hd : decide ((i : Int) < s.size) = true := by simp; omega
      have hd' : decide (i < s.size) = true := by simp; omega
      have HST := Lib.hid (fun n => stands_any [124, 41] false w0 A (wr.drewN n) R s fl i g d (HR.out.later (drewN_below (Below.refl _ _) n)) hany)
      have HPC := Lib.hid (fun w9 hR9 => piece_any w0 A w9 R s hs fl i g d hR9 hlt2 H HAA.out HHH.out hgl (fun h40 w8 hR8 => HGG.out i g w8 hlt2 hgl h40 hR8))
      have HBR2 := Lib.hid hbr
      clear hany hbr hend
      go_wp2
      go_quiet ((go_at_call 69; exact Calls.quiet_of (HST.out _)))
      have HROW2 := Lib.hid (HROW.out.later (drewN_below (Below.refl _ _) nq))
      have HR2 := Lib.hid (HR.out.later (drewN_below (Below.refl _ _) nq))
      have HT2 := Lib.hid (HT.out.drewN nq)
      have Z2 : Hid ((wr.drewN nq).heap[w.heap.size]? = some (.cells noNode 28)) := Lib.hid Z.out
      have hsz2 : w.heap.size < (wr.drewN nq).heap.size := hsz
      clear c0 c1 c2 HROW HR HT Z HBR hsx HST hd hd'
      generalize World.drewN _ _ = W at *
      go_wp2_with fail
      refine (HPC.out W HR2.out).mono ?_
      intro e w3 he
      cases hp : Ep.piece (bt s) s.size (icB fl) (nlB fl) H i g with
      | err c q =>
        rw [hp] at HBR2
        have hO2 := HBR2.out
        simp only at hO2
        subst hO2
        obtain ⟨v, rfl, hv, ht3⟩ := he.err hp
        obtain ⟨x, rfl⟩ := hv.iface
        have hbA : Below w3.heap.size w3 (w3.alloc (.cells noNode 28)) := (Below.refl _ _).alloc (Nat.le_refl _) _
        have HV := Lib.hid (hv.later hbA)
        have Z3 := Lib.hid (keep_blk hbA ((ht3.block w.heap.size hsz2 (by simp; omega)).trans Z2.out))
        have HT3 := Lib.hid ((HT2.out.trans ht3).later hbA)
        clear hv ht3 he hbA hp HBR2 HPC
        go_wp2_with (first
          | (refine wpList_store_row rfl 28 (.tmp 2) (.tmp 29) rfl w.heap.size noNode rfl rfl 28 _ Z3.out (by kernel_rfl) rfl (by simp [Value.oneCell']) ?_)
          | fail)
        exact bodyPost_ret (results_row_1 rfl _ _ w.heap.size 28 noNode (0, 0) _ _ rfl rfl (heap_setRow Z3.out) Tryz.underlying28 rfl (by kernel_rfl)) rfl ⟨⟨_, rfl, by exact (HV.out.setRow hsz2 noNode).down (Nat.le_of_lt hsz2)⟩, by exact HT3.out.setRow_new (Nat.le_refl _) _⟩
      | ok x j g2 =>
        rw [hp] at HBR2
        have hO2 := HBR2.out
        simp only at hO2
        obtain ⟨v, F, rfl, ho, hF, hr3, ht3⟩ := he.ok hp
        obtain ⟨p, c, rfl, hl⟩ := ho.slice
        have hnx := Ep.piece_next (bt_txt s) HAA.out hlt2 hp
        have hfm := Ep.piece_form (bt_txt s) HAA.out HHH.out hlt2 hgl hp
        have hbA : Below w3.heap.size w3 (w3.alloc (.cells (x.cells (.slice p x.subs.length c)) 28)) := (Below.refl _ _).alloc (Nat.le_refl _) _
        have HROW3 := Lib.hid ((HROW2.out.touch ht3 (by omega)).later hbA)
        have hown := HROW2.out.own.lt
        have HX3 : Hid (TreesAt (w3.alloc (.cells (x.cells (.slice p x.subs.length c)) 28)) (fun b => w.heap.size + 1 ≤ b ∧ (Value.ownBlock u4) ≠ some b) (.slice p x.subs.length c) x.subs) :=
          Lib.hid ((ho.later hbA).trees.mono fun b _ hb => ⟨by have := hF b hb; omega, fun e => by have := (hown b e).2; have := hF b hb; omega⟩)
        have Z3 := Lib.hid (keep_blk hbA ((ht3.block w.heap.size hsz2 (by simp; omega)).trans Z2.out))
        have HT3 := Lib.hid ((HT2.out.trans ht3).later hbA)
        have HR3 := Lib.hid ((HR2.out.next ht3 hr3).later hbA)
        have Y3 := Lib.hid (heap_alloc_new w3 (.cells (x.cells (.slice p x.subs.length c)) 28))
        have hsz3 : w.heap.size < (w3.alloc (.cells (x.cells (.slice p x.subs.length c)) 28)).heap.size := Nat.lt_of_lt_of_le hsz2 (Nat.le_trans ht3.size hbA.size)
        have HBR3 := Lib.hid hO2; have HNX := Lib.hid hnx; have HFM := Lib.hid hfm
        clear ho hF hr3 ht3 he hp hO2 HBR2 hown HROW2 HR2 HT2 Z2 hbA hnx hfm HPC
        unfold Tr.cells at Y3 ⊢
        go_upto_region 6 with (fail)
        have hw3 : w3.heap.size < (w3.alloc (.cells (x.cells (.slice p x.subs.length c)) 28)).heap.size := by simp
        unfold Tr.cells at hw3 HROW3 HX3 Z3 HT3 HR3 hsz3
        generalize World.alloc w3 _ = W3 at *
        have HBC : Below W3.heap.size W3 (W3.alloc (.cells (x.cells (.slice p x.subs.length c)) 28)) := (Below.refl _ _).alloc (Nat.le_refl _) _
        have HROW4 := Lib.hid (HROW3.out.later HBC)
        have HOWN := Lib.hid HROW4.out.own
        have HX4 := Lib.hid (HX3.out.later HBC)
        have HT4 := Lib.hid (HT3.out.later HBC)
        have HR4 := Lib.hid (HR3.out.later HBC)
        have Z4 := Lib.hid (keep_blk HBC Z3.out)
        have hsz4 : w.heap.size + 1 < (W3.alloc (.cells (x.cells (.slice p x.subs.length c)) 28)).heap.size := by simp; omega
        have HNW : Hid (∀ (j : Nat) (u : Value), (x.cells (.slice p x.subs.length c)).toList[j]? = some u → (W3.alloc (.cells (x.cells (.slice p x.subs.length c)) 28)).cell? ((⟨W3.heap.size, 0, none⟩ : Addr).add j) = some u) := Lib.hid (fun j u hu => by
          have ea : (⟨W3.heap.size, 0, none⟩ : Addr).add j = ⟨W3.heap.size, j, none⟩ := by unfold Addr.add; split <;> simp_all
          rw [ea, cell_new]; simpa using hu)
        have HBA : Hid (w.heap.size + 1 ≤ (W3.alloc (.cells (x.cells (.slice p x.subs.length c)) 28)).heap.size) := Lib.hid (by omega)
        have hml : ps.length + 1 ≤ maxLen := by unfold maxLen; omega
        have hbyt : (ps.length + 1) * 96 ≤ 140737488355328 := by omega
        have hlx := HROW4.out.own.lt
        have HLX := Lib.hid hlx
        clear hlx HBC
        go_wp2_with (first
          | (refine wpList_load_row rfl 28 (.tmp 5) rfl w3.heap.size rfl 28 _ (0, 0) _ Y3.out Tryz.underlying28 rfl (by kernel_rfl) ?_)
          | (refine wpList_node1 rfl (.tmp 32) x p x.subs.length c rfl rfl ?_)
          | (refine wpList_append_fresh _ rfl (.tmp 31) (.tmp 33) 26 rfl (w.heap.size + 1) 28 ie _ 10 96 Tryz.underlying26 HI.out HZ0.out HZ1.out HZ2.out rfl (by decide) _ _ _ rfl HOWN.out ⟨W3.heap.size, 0, none⟩ 1 1 (x.cells (.slice p x.subs.length c)).toList rfl rfl HNW.out (nodeC_one _ _ _ _) (by decide) hml hbyt HBA.out ?_; intro v' w4 hown4 hgrow4 hwhere)
          | fail)
        have HG4 := Lib.hid hgrow4; have HW4 := Lib.hid hwhere; have HN4 := Lib.hid hown4
        clear hgrow4 hwhere hown4
        have hrow : ∀ k, Value.ownBlock u4 = some k → w.heap.size + 1 ≤ k := fun k e => (HLX.out k e).1
        have hRb : w4.heap[R]? = some (.cells (rdC s fl j g2 d) 54) := (HG4.out.block R HR4.out.lt (fun e => by have := hrow R e.symm; omega)).trans HR4.out.cell
        have hZ4 : w4.heap[w.heap.size]? = some (.cells noNode 28) := (HG4.out.block _ (by omega) (fun e => by have := hrow _ e.symm; omega)).trans Z4.out
        have hRd : RdAt w0 A w4 R s fl j g2 d := ⟨HR4.out.env, HR4.out.old, HR4.out.bel.grown HG4.out HR4.out.bel.size (fun k e => by have := hrow k e; have := HR4.out.old; omega), hRb⟩
        have hnx := HNX.out
        have hfm := HFM.out
        refine ⟨⟨k, ps ++ [(x, .slice p x.subs.length c)], j, g2, by omega, hnx.2, hfm.2, by simp; omega, Lib.hid ?_, Lib.hid hRd, Lib.hid (HT4.out.grown HG4.out fun k e => by have := hrow k e; omega), Lib.hid hZ4, by have := HG4.out.size; omega, Lib.hid (HROW4.out.snoc HX4.out HN4.out HG4.out HW4.out)⟩, ?_⟩
        · rw [List.map_append]; exact HBR3.out
        · rw [placeOf_is hRb, HPL.out]; omega
end Go.Proofs.YtlbhbjmobcikfaaGreatDoor
/- What the reader of extended patterns answers of a pattern. -/
namespace Go.Proofs.YtlbhbjmobcikfaaGreatDoor
open Go.RowKit
set_option maxRecDepth 100000 in
set_option maxHeartbeats 8000000 in
theorem pattern_any (w0 : World) (A : Nat → Addr) (w : World) (R : Nat) (s : ByteArray) (hs : s.size ≤ 4294967280) (fl : Int) (i0 g0 d : Nat) (hR : RdAt w0 A w R s fl i0 g0 d) (hi : i0 ≤ s.size) (H : Nat → Nat → Ep.Out) (hA : Ep.Ahead s.size H) (hH : Ep.Right s.size d H) (hg : 2 * g0 ≤ i0 + d)
    (HG : ∀ i g w, i < s.size → 2 * g ≤ i + d → bt s i = 40 → RdAt w0 A w R s fl i g d → Calls Tryz.prog 132 #[.pointer (some ⟨R, 0, none⟩)] w (NdEnd A R s fl d (H i g) w))
    (O : Ep.Out) (hO : Ep.alts (bt s) s.size (icB fl) (nlB fl) H (s.size + 1) [] i0 g0 = O) :
    Calls Tryz.prog 44 #[.pointer (some ⟨R, 0, none⟩)] w (NdEnd A R s fl d O w) := by
  have hlt := hR.lt
  have hb0 : Below w.heap.size w (w.alloc (.cells noNode 28)) := (Below.refl _ _).alloc (Nat.le_refl _) _
  have HR1 := Lib.hid (hR.later hb0)
  have Z0 := Lib.hid (heap_alloc_new w (.cells noNode 28))
  have HB0 := Lib.hid hb0
  have HO := Lib.hid hO; have HAA := Lib.hid hA; have HHH := Lib.hid hH; have HGG := Lib.hid HG
  clear hR hb0 hO hA hH HG
  go_enter Tryz.func44, Tryz.ntmps44
  obtain ⟨ie, hi0, hz0, hz1, hz2⟩ := info_parts Tryz.infoNode
  have HI := Lib.hid hi0; have HZ0 := Lib.hid hz0; have HZ1 := Lib.hid hz1; have HZ2 := Lib.hid hz2
  clear hi0 hz0 hz1 hz2
  go_wp2
  go_loopw [4] (fun sv wr => ∃ (k : Nat) (ps : List (Tr × Value)) (i g : Nat), s.size - i < k ∧ i ≤ s.size ∧ 2 * g ≤ i + d ∧ ps.length ≤ i ∧ Hid (Ep.alts (bt s) s.size (icB fl) (nlB fl) H k (ps.map (·.1)) i g = O) ∧ Hid (RdAt w0 A wr R s fl i g d) ∧ Hid (Touch [R] w wr) ∧
    Hid (wr.heap[w.heap.size]? = some (.cells noNode 28)) ∧ w.heap.size < wr.heap.size ∧ Hid (RowAt wr (w.heap.size + 1) sv ps)) (fun _ wr => s.size - placeOf R wr)
  case atStart => exact ⟨s.size + 1, [], i0, g0, by omega, hi, hg, Nat.zero_le _, HO, HR1, Lib.hid (Touch.of_below _ HB0.out), Z0, by simp, Lib.hid (RowAt.nil _ _)⟩
  case round =>
    obtain ⟨k, ps, i, g, hk, hil, hgl, hpl, HBR, HR, HT, Z, hsz, HROW⟩ := hrel
    obtain ⟨k, rfl⟩ : ∃ m, k = m + 1 := ⟨k - 1, by omega⟩
    have hbr := HBR.out
    unfold Ep.alts at hbr
    have HPL := Lib.hid (placeOf_is HR.out.cell)
    have HPC := Lib.hid (branch_any w0 A wr R s hs fl i g d HR.out hil H HAA.out HHH.out hgl HGG.out _ rfl)
    have HBR2 := Lib.hid hbr
    clear hbr HBR
    go_wp2_with fail
    refine HPC.out.mono ?_
    intro e w3 he
    cases hp : Ep.branch (bt s) s.size (icB fl) (nlB fl) H (s.size + 1) [] i g with
    | err c q =>
      rw [hp] at HBR2
      have hO2 := HBR2.out
      simp only at hO2
      subst hO2
      obtain ⟨v, rfl, hv, ht3⟩ := he.err hp
      obtain ⟨x, rfl⟩ := hv.iface
      have hbA : Below w3.heap.size w3 (w3.alloc (.cells noNode 28)) := (Below.refl _ _).alloc (Nat.le_refl _) _
      have HV := Lib.hid (hv.later hbA)
      have Z3 := Lib.hid (keep_blk hbA ((ht3.block w.heap.size hsz (by simp; omega)).trans Z.out))
      have HT3 := Lib.hid ((HT.out.trans ht3).later hbA)
      clear hv ht3 he hbA hp HBR2 HPC
      go_wp2_with (first
        | (refine wpList_store_row rfl 28 (.tmp 2) (.tmp 14) rfl w.heap.size noNode rfl rfl 28 _ Z3.out (by kernel_rfl) rfl (by simp [Value.oneCell']) ?_)
        | fail)
      exact bodyPost_ret (results_row_1 rfl _ _ w.heap.size 28 noNode (0, 0) _ _ rfl rfl (heap_setRow Z3.out) Tryz.underlying28 rfl (by kernel_rfl)) rfl ⟨⟨_, rfl, by exact (HV.out.setRow hsz noNode).down (Nat.le_of_lt hsz)⟩, by exact HT3.out.setRow_new (Nat.le_refl _) _⟩
    | ok x j g2 =>
      rw [hp] at HBR2
      have hO2 := HBR2.out
      simp only at hO2
      obtain ⟨v, F, rfl, ho, hF, hr3, ht3⟩ := he.ok hp
      obtain ⟨p, c, rfl, hl⟩ := ho.slice
      have hnx := Ep.branch_next (bt_txt s) HAA.out hil hp
      have hfm := Ep.branch_form (bt_txt s) HAA.out HHH.out hil (fun u hu => by cases hu) hgl hp
      have hbA : Below w3.heap.size w3 (w3.alloc (.cells (x.cells (.slice p x.subs.length c)) 28)) := (Below.refl _ _).alloc (Nat.le_refl _) _
      have HROW3 := Lib.hid ((HROW.out.touch ht3 (by omega)).later hbA)
      have hown := HROW.out.own.lt
      have HX3 : Hid (TreesAt (w3.alloc (.cells (x.cells (.slice p x.subs.length c)) 28)) (fun b => w.heap.size + 1 ≤ b ∧ (Value.ownBlock u4) ≠ some b) (.slice p x.subs.length c) x.subs) :=
        Lib.hid ((ho.later hbA).trees.mono fun b _ hb => ⟨by have := hF b hb; omega, fun e => by have := (hown b e).2; have := hF b hb; omega⟩)
      have Z3 := Lib.hid (keep_blk hbA ((ht3.block w.heap.size hsz (by simp; omega)).trans Z.out))
      have HT3 := Lib.hid ((HT.out.trans ht3).later hbA)
      have HR3 := Lib.hid ((HR.out.next ht3 hr3).later hbA)
      have Y3 := Lib.hid (heap_alloc_new w3 (.cells (x.cells (.slice p x.subs.length c)) 28))
      have hsz3 : w.heap.size < (w3.alloc (.cells (x.cells (.slice p x.subs.length c)) 28)).heap.size := Nat.lt_of_lt_of_le hsz (Nat.le_trans ht3.size hbA.size)
      have HBR3 := Lib.hid hO2; have HNX := Lib.hid hnx; have HFM := Lib.hid hfm.2
      clear ho hF hr3 ht3 he hp hO2 HBR2 hown HROW HR HT Z hbA hnx hfm HPC
      unfold Tr.cells at Y3 ⊢
      go_upto_region 5 with (fail)
      have hw3 : w3.heap.size < (w3.alloc (.cells (x.cells (.slice p x.subs.length c)) 28)).heap.size := by simp
      unfold Tr.cells at hw3 HROW3 HX3 Z3 HT3 HR3 hsz3
      generalize World.alloc w3 _ = W3 at *
      have HBC : Below W3.heap.size W3 (W3.alloc (.cells (x.cells (.slice p x.subs.length c)) 28)) := (Below.refl _ _).alloc (Nat.le_refl _) _
      have HROW4 := Lib.hid (HROW3.out.later HBC)
      have HOWN := Lib.hid HROW4.out.own
      have HX4 := Lib.hid (HX3.out.later HBC)
      have HT4 := Lib.hid (HT3.out.later HBC)
      have HR4 := Lib.hid (HR3.out.later HBC)
      have Z4 := Lib.hid (keep_blk HBC Z3.out)
      have hsz4 : w.heap.size + 1 < (W3.alloc (.cells (x.cells (.slice p x.subs.length c)) 28)).heap.size := by simp; omega
      have HNW : Hid (∀ (j : Nat) (u : Value), (x.cells (.slice p x.subs.length c)).toList[j]? = some u → (W3.alloc (.cells (x.cells (.slice p x.subs.length c)) 28)).cell? ((⟨W3.heap.size, 0, none⟩ : Addr).add j) = some u) := Lib.hid (fun j u hu => by
        have ea : (⟨W3.heap.size, 0, none⟩ : Addr).add j = ⟨W3.heap.size, j, none⟩ := by unfold Addr.add; split <;> simp_all
        rw [ea, cell_new]; simpa using hu)
      have HBA : Hid (w.heap.size + 1 ≤ (W3.alloc (.cells (x.cells (.slice p x.subs.length c)) 28)).heap.size) := Lib.hid (by omega)
      have hml : ps.length + 1 ≤ maxLen := by unfold maxLen; omega
      have hbyt : (ps.length + 1) * 96 ≤ 140737488355328 := by omega
      have hlx := HROW4.out.own.lt
      have HLX := Lib.hid hlx
      clear hlx HBC
      go_upto_region 6 with (first
        | (refine wpList_load_row rfl 28 (.tmp 5) rfl w3.heap.size rfl 28 _ (0, 0) _ Y3.out Tryz.underlying28 rfl (by kernel_rfl) ?_)
        | (refine wpList_node1 rfl (.tmp 17) x p x.subs.length c rfl rfl ?_)
        | (refine wpList_append_fresh _ rfl (.tmp 16) (.tmp 18) 26 rfl (w.heap.size + 1) 28 ie _ 10 96 Tryz.underlying26 HI.out HZ0.out HZ1.out HZ2.out rfl (by decide) _ _ _ rfl HOWN.out ⟨W3.heap.size, 0, none⟩ 1 1 (x.cells (.slice p x.subs.length c)).toList rfl rfl HNW.out (nodeC_one _ _ _ _) (by decide) hml hbyt HBA.out ?_; intro v' w4 hown4 hgrow4 hwhere)
        | fail)
      have HG4 := Lib.hid hgrow4; have HW4 := Lib.hid hwhere; have HN4 := Lib.hid hown4
      clear hgrow4 hwhere hown4
      have hrow : ∀ k, Value.ownBlock u4 = some k → w.heap.size + 1 ≤ k := fun k e => (HLX.out k e).1
      have hRb : w4.heap[R]? = some (.cells (rdC s fl j g2 d) 54) := (HG4.out.block R HR4.out.lt (fun e => by have := hrow R e.symm; omega)).trans HR4.out.cell
      have hZ4 : w4.heap[w.heap.size]? = some (.cells noNode 28) := (HG4.out.block _ (by omega) (fun e => by have := hrow _ e.symm; omega)).trans Z4.out
      have HRd : Hid (RdAt w0 A w4 R s fl j g2 d) := Lib.hid ⟨HR4.out.env, HR4.out.old, HR4.out.bel.grown HG4.out HR4.out.bel.size (fun k e => by have := hrow k e; have := HR4.out.old; omega), hRb⟩
      have HT5 := Lib.hid (HT4.out.grown HG4.out fun k e => by have := hrow k e; omega)
      have HROW5 := Lib.hid (HROW4.out.snoc HX4.out HN4.out HG4.out HW4.out)
      have Z5 := Lib.hid hZ4
      have hsz5 : w.heap.size < w4.heap.size := by have := HG4.out.size; omega
      clear HG4 HW4 HN4 hrow hRb hZ4 HR4 HT4 HROW4 HX4 Z4 HOWN HNW HBA HLX Y3 hw3
      by_cases hbar : bt s j = 124
      · have hO3 := HBR3.out
        rw [if_pos hbar] at hO3
        have HBR4 := Lib.hid hO3
        have hjl := (bt_txt s).lt hbar (by omega)
        have HST := Lib.hid (stands_any [124] true w0 A w4 R s fl j g2 d HRd.out (by rw [hbar]; decide))
        clear hO3 HBR3
        go_wp2_with fail
        refine HST.out.mono ?_
        rintro e w5 ⟨rfl, n, rfl⟩
        have HRe := Lib.hid (HRd.out.later (drewN_below (Below.refl _ _) n))
        have HTe := Lib.hid (HT5.out.drewN n)
        have HROWe := Lib.hid (HROW5.out.later (drewN_below (Below.refl _ _) n))
        have Ze : Hid ((w4.drewN n).heap[w.heap.size]? = some (.cells noNode 28)) := Lib.hid Z5.out
        have hsze : w.heap.size < (w4.drewN n).heap.size := hsz5
        clear HRd HT5 HROW5 Z5
        generalize World.drewN _ _ = W5 at *
        obtain ⟨-, -, c2, -, -⟩ := rd5 HRe.out.cell
        obtain ⟨f2, -, -⟩ := rdf HRe.out.cell
        have hw : IntKind.i64.wrap ((j : Int) + 1) = (j : Int) + 1 := IntWalk.i64_in _ (by omega)
        have hP := rd_place HRe.out.cell (j + 1) (v := (j : Int) + 1) (by omega)
        have HP := Lib.hid hP
        have HRf := Lib.hid (HRe.out.next ((Touch.refl [R] W5).setCell List.mem_cons_self 2 _) hP)
        have HTf := Lib.hid (HTe.out.setCell List.mem_cons_self 2 (.int .i64 ((j : Int) + 1)))
        have HROWf := Lib.hid (HROWe.out.touch ((Touch.refl [R] W5).setCell List.mem_cons_self 2 (.int .i64 ((j : Int) + 1))) (by omega))
        have Zf := Lib.hid ((Below.heap_setCell W5 ⟨R, 2, none⟩ (.int .i64 ((j : Int) + 1)) w.heap.size (by simp; omega)).trans Ze.out)
        have hszf : w.heap.size < (W5.setCell ⟨R, 2, none⟩ (.int .i64 ((j : Int) + 1))).heap.size := by simpa using hsze
        clear hP HRe HTe HROWe Ze
        go_wp2
        refine ⟨⟨k, ps ++ [(x, .slice p x.subs.length c)], j + 1, g2, by have := HNX.out; omega, by omega, by have := HFM.out; omega, by have := HNX.out; simp; omega, Lib.hid ?_, HRf, HTf, Zf, hszf, HROWf⟩, ?_⟩
        · rw [List.map_append]; exact HBR4.out
        · rw [placeOf_is HP.out, HPL.out]; have := HNX.out; omega
      · have hO3 := HBR3.out
        rw [if_neg hbar] at hO3
        subst hO3
        have HST := Lib.hid (stands_any [124] false w0 A w4 R s fl j g2 d HRd.out (by simp only [List.any_cons, List.any_nil, Bool.or_false, show (124 : UInt8).toNat = 124 from rfl]; simp; omega))
        clear HBR3
        obtain ⟨q4, c4, hu4⟩ := HROW5.out.len
        subst hu4
        go_wp2_with fail
        refine HST.out.mono ?_
        rintro e w5 ⟨rfl, n, rfl⟩
        have HRe := Lib.hid (HRd.out.later (drewN_below (Below.refl _ _) n))
        have HTe := Lib.hid (HT5.out.drewN n)
        have hpl2 : (ps ++ [(x, Value.slice p x.subs.length c)]).length * 96 ≤ 140737488351232 := by simp; omega
        have HROWe := (HROW5.out.later (drewN_below (Below.refl _ _) n)).trees hpl2
        have Ze : Hid ((w4.drewN n).heap[w.heap.size]? = some (.cells noNode 28)) := Lib.hid Z5.out
        have hsze : w.heap.size < (w4.drewN n).heap.size := hsz5
        have hlm : ((ps ++ [(x, Value.slice p x.subs.length c)]).map (·.1)).length = (ps ++ [(x, Value.slice p x.subs.length c)]).length := List.length_map _
        rw [← hlm] at HROWe
        generalize World.drewN _ _ = W5 at *
        have hseq := alt_any _ (by simp) W5 _ _ HROWe
        have hmm : (ps ++ [(x, Value.slice p x.subs.length c)]).map (·.1) = ps.map (·.1) ++ [x] := by simp
        rw [hmm] at hseq
        obtain ⟨T, hTE⟩ : ∃ T, Tr.several 6 (ps.map (·.1) ++ [x]) = T := ⟨_, rfl⟩
        rw [hTE] at hseq
        have hl2 : (ps.map (·.1) ++ [x]).length = ps.length + 1 := by simp
        rw [hl2] at hseq
        have HTE := Lib.hid hTE; have HSEQ := Lib.hid hseq
        clear hTE hseq hlm hmm HROWe hl2 HRd HT5 HROW5 Z5 hpl2
        go_wp2_with fail
        refine HSEQ.out.mono ?_
        rintro e w6 ⟨s6, F3, rfl, ho3, hF3, hb3⟩
        obtain ⟨p3, c3, rfl, hl3⟩ := ho3.slice
        have HO3 := Lib.hid ho3
        have Z6 := Lib.hid (keep_blk hb3 Ze.out)
        have HR6 := Lib.hid (HRe.out.later hb3)
        have HT6 := Lib.hid (HTe.out.later hb3)
        have hRne : R ≠ w.heap.size := by omega
        have hk1 : ∀ b, b ∈ F3 → b ≠ w.heap.size := fun b hb => by have := hF3 b hb; omega
        have hk2 : ∀ b, b ∈ F3 → w.heap.size ≤ b := fun b hb => by have := hF3 b hb; omega
        have HK1 := Lib.hid hk1; have HK2 := Lib.hid hk2
        clear hk1 hk2 ho3 hF3 hb3 HRe HTe Ze HSEQ
        unfold Tr.cells
        go_wp2_with (first
          | (refine wpList_store_row rfl 28 (.tmp 2) (.tmp 24) rfl w.heap.size #[.int .i64 (T).kind, .int .u64 (Oc.U (T).w0), .int .u64 (Oc.U (T).w1), .int .u64 (Oc.U (T).w2), .int .u64 (Oc.U (T).w3), .slice p3 T.subs.length c3, .int .i64 (T).num, .int .i64 (T).least, .int .i64 (T).most, .bool (T).bare] rfl rfl 28 _ Z6.out (by kernel_rfl) rfl (by simp [Value.oneCell']) ?_)
          | fail)
        refine bodyPost_ret (results_row_1 rfl _ _ w.heap.size 28 #[.int .i64 (T).kind, .int .u64 (Oc.U (T).w0), .int .u64 (Oc.U (T).w1), .int .u64 (Oc.U (T).w2), .int .u64 (Oc.U (T).w3), .slice p3 T.subs.length c3, .int .i64 (T).num, .int .i64 (T).least, .int .i64 (T).most, .bool (T).bare] (0, 0) _ _ rfl rfl (heap_setRow Z6.out) Tryz.underlying28 rfl (by kernel_rfl)) rfl ⟨⟨.slice p3 T.subs.length c3, F3, ?_, ?_, HK2.out, (heap_setRow_other _ _ _ hRne).trans HR6.out.cell⟩, HT6.out.setRow_new (Nat.le_refl _) _⟩
        · rw [HTE.out]; rfl
        · rw [HTE.out]; exact HO3.out.keep fun b hb => heap_setRow_other _ _ _ (HK1.out b hb)
end Go.Proofs.YtlbhbjmobcikfaaGreatDoor
/- What the reader of extended patterns answers of a group. -/
namespace Go.Proofs.YtlbhbjmobcikfaaGreatDoor
open Go.RowKit
set_option maxRecDepth 100000 in
set_option maxHeartbeats 4000000 in
theorem egroup_deep (w0 : World) (A : Nat → Addr) (w : World) (R : Nat) (s : ByteArray) (_hs : s.size ≤ 4294967280) (fl : Int) (i g d : Nat) (hR : RdAt w0 A w R s fl i g d) (_hi : i < s.size) (hd : d = 32) :
    Calls Tryz.prog 132 #[.pointer (some ⟨R, 0, none⟩)] w (NdEnd A R s fl d (.err 11 i) w) := by
  have hlt := hR.lt
  have hb0 : Below w.heap.size w (w.alloc (.cells noNode 28)) := (Below.refl _ _).alloc (Nat.le_refl _) _
  have HR := Lib.hid (hR.later hb0)
  have Z1 := Lib.hid (heap_alloc_new w (.cells noNode 28))
  have HB0 := Lib.hid hb0
  have hsW : w.heap.size < (w.alloc (.cells noNode 28)).heap.size := by simp
  clear hR hb0
  go_enter Tryz.func132, Tryz.ntmps132
  go_upto_region 1 with (fail)
  generalize World.alloc _ _ = W at *
  have hRne : R ≠ w.heap.size := by omega
  obtain ⟨-, -, -, -, c4⟩ := rd5 HR.out.cell
  have ce : W.cell? ⟨11, 0, none⟩ = some (.iface 184 (.pointer (some (A 10)))) := (HR.out.now.errs 10 (by omega)).1
  have e4 : ((d : Int) == 32) = true := by simp; omega
  clear hd
  go_wp2_with fail
  refine (fails_any w0 A 10 (by omega) W R s fl i g d HR.out).mono ?_
  intro e w2 he
  have he' := he
  obtain ⟨v, rfl, hv, ht2⟩ := he.err rfl
  have HE := Lib.hid he'
  have Z2 := Lib.hid ((ht2.block w.heap.size hsW (by simp; omega)).trans Z1.out)
  clear hv ht2 he he' ce
  go_wp2_with (first
    | (refine wpList_store_row rfl 28 (.tmp 2) (.tmp 16) rfl w.heap.size noNode rfl rfl 28 _ Z2.out (by kernel_rfl) rfl (by simp [Value.oneCell']) ?_)
    | fail)
  exact bodyPost_ret (results_row_1 rfl _ _ w.heap.size 28 noNode (0, 0) _ _ rfl rfl (heap_setRow Z2.out) Tryz.underlying28 rfl (by kernel_rfl)) rfl (by exact (HE.out.b.pass (Touch.of_below [R] HB0.out) hsW (Nat.le_refl _) (Nat.le_of_lt hsW) hRne _).nd)
set_option maxRecDepth 100000 in
set_option maxHeartbeats 4000000 in
theorem egroup_err (w0 : World) (A : Nat → Addr) (w : World) (R : Nat) (s : ByteArray) (hs : s.size ≤ 4294967280) (fl : Int) (i g d : Nat) (hR : RdAt w0 A w R s fl i g d) (hi : i < s.size) (hd : d < 32) (hg : g ≤ 4294967280) (c : Nat) (q : Int) (HC : ∀ w, RdAt w0 A w R s fl (i + 1) (g + 1) (d + 1) → Calls Tryz.prog 44 #[.pointer (some ⟨R, 0, none⟩)] w (NdEnd A R s fl (d + 1) (.err c q) w)) :
    Calls Tryz.prog 132 #[.pointer (some ⟨R, 0, none⟩)] w (NdEnd A R s fl d (.err c q) w) := by
  have HC := Lib.hid HC
  have hlt := hR.lt
  have hb0 : Below w.heap.size w (w.alloc (.cells noNode 28)) := (Below.refl _ _).alloc (Nat.le_refl _) _
  have HR := Lib.hid (hR.later hb0)
  have Z1 := Lib.hid (heap_alloc_new w (.cells noNode 28))
  have HB0 := Lib.hid hb0
  have hsW : w.heap.size < (w.alloc (.cells noNode 28)).heap.size := by simp
  clear hR hb0
  go_enter Tryz.func132, Tryz.ntmps132
  go_upto_region 1 with (fail)
  generalize World.alloc _ _ = W at *
  have hRne : R ≠ w.heap.size := by omega
  obtain ⟨-, -, c2, c3, c4⟩ := rd5 HR.out.cell
  obtain ⟨f2, f3, f4⟩ := rdf HR.out.cell
  have e4 : ((d : Int) == 32) = false := by rw [beq_eq_false_iff_ne]; omega
  have wg : IntKind.i64.wrap ((g : Int) + 1) = (g : Int) + 1 := IntWalk.i64_in _ (by omega)
  have wd : IntKind.i64.wrap ((d : Int) + 1) = (d : Int) + 1 := IntWalk.i64_in _ (by omega)
  have wi : IntKind.i64.wrap ((i : Int) + 1) = (i : Int) + 1 := IntWalk.i64_in _ (by omega)
  go_upto_region 5 with (fail)
  have hP1 := rd_groups HR.out.cell (g + 1) (v := (g : Int) + 1) (by omega)
  have HR1 := Lib.hid (HR.out.next ((Touch.refl [R] W).setCell List.mem_cons_self 3 (.int .i64 ((g : Int) + 1))) hP1)
  have HT1 := Lib.hid ((Touch.of_below [R] HB0.out).setCell List.mem_cons_self 3 (.int .i64 ((g : Int) + 1)))
  have Z2 := Lib.hid ((Below.heap_setCell W ⟨R, 3, none⟩ (.int .i64 ((g : Int) + 1)) w.heap.size (Ne.symm hRne)).trans Z1.out)
  have hs1 : w.heap.size < (W.setCell ⟨R, 3, none⟩ (.int .i64 ((g : Int) + 1))).heap.size := by simpa using hsW
  clear hP1 c2 c3 c4 f2 f3 f4 HB0 Z1 HR
  generalize World.setCell W _ _ = W1 at *
  obtain ⟨-, -, c2, c3, c4⟩ := rd5 HR1.out.cell
  obtain ⟨f2, f3, f4⟩ := rdf HR1.out.cell
  go_upto_region 6 with (fail)
  have hP2 := rd_open HR1.out.cell (d + 1) (v := (d : Int) + 1) (by omega)
  have HR2 := Lib.hid (HR1.out.next ((Touch.refl [R] W1).setCell List.mem_cons_self 4 (.int .i64 ((d : Int) + 1))) hP2)
  have HT2 := Lib.hid (HT1.out.setCell List.mem_cons_self 4 (.int .i64 ((d : Int) + 1)))
  have Z3 := Lib.hid ((Below.heap_setCell W1 ⟨R, 4, none⟩ (.int .i64 ((d : Int) + 1)) w.heap.size (Ne.symm hRne)).trans Z2.out)
  have hs2 : w.heap.size < (W1.setCell ⟨R, 4, none⟩ (.int .i64 ((d : Int) + 1))).heap.size := by simpa using hs1
  clear hP2 c2 c3 c4 f2 f3 f4 HT1 Z2 HR1
  generalize World.setCell W1 _ _ = W2 at *
  obtain ⟨-, -, c2, c3, c4⟩ := rd5 HR2.out.cell
  obtain ⟨f2, f3, f4⟩ := rdf HR2.out.cell
  have c3' : W2.cell? ⟨R, 3, none⟩ = some (.int .i64 ((g : Int) + 1)) := c3
  clear c3
  go_upto_region 8 with (fail)
  have hP3 := rd_place HR2.out.cell (i + 1) (v := (i : Int) + 1) (by omega)
  have HR3 := Lib.hid (HR2.out.next ((Touch.refl [R] W2).setCell List.mem_cons_self 2 (.int .i64 ((i : Int) + 1))) hP3)
  have HT3 := Lib.hid (HT2.out.setCell List.mem_cons_self 2 (.int .i64 ((i : Int) + 1)))
  have Z4 := Lib.hid ((Below.heap_setCell W2 ⟨R, 2, none⟩ (.int .i64 ((i : Int) + 1)) w.heap.size (Ne.symm hRne)).trans Z3.out)
  have hs3 : w.heap.size < (W2.setCell ⟨R, 2, none⟩ (.int .i64 ((i : Int) + 1))).heap.size := by simpa using hs2
  clear hP3 c2 c3' c4 f2 f3 f4 HT2 Z3 HR2
  generalize World.setCell W2 _ _ = W3 at *
  go_wp2_with fail
  refine (HC.out W3 HR3.out).mono ?_
  intro e w4 he
  obtain ⟨v, rfl, hv, ht4⟩ := he.err rfl
  obtain ⟨x, rfl⟩ := hv.iface
  have hbA : Below w4.heap.size w4 (w4.alloc (.cells noNode 28)) := (Below.refl _ _).alloc (Nat.le_refl _) _
  have HV := Lib.hid (hv.later hbA)
  have Z5 := Lib.hid (keep_blk hbA ((ht4.block w.heap.size hs3 (by simp; omega)).trans Z4.out))
  have HT4 := Lib.hid ((HT3.out.trans ht4).later hbA)
  clear hv ht4 he hbA
  go_wp2_with (first
    | (refine wpList_store_row rfl 28 (.tmp 2) (.tmp 54) rfl w.heap.size noNode rfl rfl 28 _ Z5.out (by kernel_rfl) rfl (by simp [Value.oneCell']) ?_)
    | fail)
  exact bodyPost_ret (results_row_1 rfl _ _ w.heap.size 28 noNode (0, 0) _ _ rfl rfl (heap_setRow Z5.out) Tryz.underlying28 rfl (by kernel_rfl)) rfl ⟨⟨_, rfl, by exact (HV.out.setRow hs3 noNode).down (Nat.le_of_lt hs3)⟩, by exact HT4.out.setRow_new (Nat.le_refl _) _⟩
set_option maxRecDepth 100000 in
set_option maxHeartbeats 4000000 in
theorem egroup_open (w0 : World) (A : Nat → Addr) (w : World) (R : Nat) (s : ByteArray) (hs : s.size ≤ 4294967280) (fl : Int) (i g d : Nat) (hR : RdAt w0 A w R s fl i g d) (hi : i < s.size) (hd : d < 32) (hg : g ≤ 4294967280) (x : Tr) (j g' : Nat) (hb : bt s j ≠ 41) (HC : ∀ w, RdAt w0 A w R s fl (i + 1) (g + 1) (d + 1) → Calls Tryz.prog 44 #[.pointer (some ⟨R, 0, none⟩)] w (NdEnd A R s fl (d + 1) (.ok x j g') w)) :
    Calls Tryz.prog 132 #[.pointer (some ⟨R, 0, none⟩)] w (NdEnd A R s fl d (.err 2 i) w) := by
  have HC := Lib.hid HC
  have hlt := hR.lt
  have hb0 : Below w.heap.size w (w.alloc (.cells noNode 28)) := (Below.refl _ _).alloc (Nat.le_refl _) _
  have HR := Lib.hid (hR.later hb0)
  have Z1 := Lib.hid (heap_alloc_new w (.cells noNode 28))
  have HB0 := Lib.hid hb0
  have hsW : w.heap.size < (w.alloc (.cells noNode 28)).heap.size := by simp
  clear hR hb0
  go_enter Tryz.func132, Tryz.ntmps132
  go_upto_region 1 with (fail)
  generalize World.alloc _ _ = W at *
  have hRne : R ≠ w.heap.size := by omega
  obtain ⟨-, -, c2, c3, c4⟩ := rd5 HR.out.cell
  obtain ⟨f2, f3, f4⟩ := rdf HR.out.cell
  have e4 : ((d : Int) == 32) = false := by rw [beq_eq_false_iff_ne]; omega
  have wg : IntKind.i64.wrap ((g : Int) + 1) = (g : Int) + 1 := IntWalk.i64_in _ (by omega)
  have wd : IntKind.i64.wrap ((d : Int) + 1) = (d : Int) + 1 := IntWalk.i64_in _ (by omega)
  have wi : IntKind.i64.wrap ((i : Int) + 1) = (i : Int) + 1 := IntWalk.i64_in _ (by omega)
  go_upto_region 5 with (fail)
  have hP1 := rd_groups HR.out.cell (g + 1) (v := (g : Int) + 1) (by omega)
  have HR1 := Lib.hid (HR.out.next ((Touch.refl [R] W).setCell List.mem_cons_self 3 (.int .i64 ((g : Int) + 1))) hP1)
  have HT1 := Lib.hid ((Touch.of_below [R] HB0.out).setCell List.mem_cons_self 3 (.int .i64 ((g : Int) + 1)))
  have Z2 := Lib.hid ((Below.heap_setCell W ⟨R, 3, none⟩ (.int .i64 ((g : Int) + 1)) w.heap.size (Ne.symm hRne)).trans Z1.out)
  have hs1 : w.heap.size < (W.setCell ⟨R, 3, none⟩ (.int .i64 ((g : Int) + 1))).heap.size := by simpa using hsW
  clear hP1 c2 c3 c4 f2 f3 f4 HB0 Z1 HR
  generalize World.setCell W _ _ = W1 at *
  obtain ⟨-, -, c2, c3, c4⟩ := rd5 HR1.out.cell
  obtain ⟨f2, f3, f4⟩ := rdf HR1.out.cell
  go_upto_region 6 with (fail)
  have hP2 := rd_open HR1.out.cell (d + 1) (v := (d : Int) + 1) (by omega)
  have HR2 := Lib.hid (HR1.out.next ((Touch.refl [R] W1).setCell List.mem_cons_self 4 (.int .i64 ((d : Int) + 1))) hP2)
  have HT2 := Lib.hid (HT1.out.setCell List.mem_cons_self 4 (.int .i64 ((d : Int) + 1)))
  have Z3 := Lib.hid ((Below.heap_setCell W1 ⟨R, 4, none⟩ (.int .i64 ((d : Int) + 1)) w.heap.size (Ne.symm hRne)).trans Z2.out)
  have hs2 : w.heap.size < (W1.setCell ⟨R, 4, none⟩ (.int .i64 ((d : Int) + 1))).heap.size := by simpa using hs1
  clear hP2 c2 c3 c4 f2 f3 f4 HT1 Z2 HR1
  generalize World.setCell W1 _ _ = W2 at *
  obtain ⟨-, -, c2, c3, c4⟩ := rd5 HR2.out.cell
  obtain ⟨f2, f3, f4⟩ := rdf HR2.out.cell
  have c3' : W2.cell? ⟨R, 3, none⟩ = some (.int .i64 ((g : Int) + 1)) := c3
  clear c3
  go_upto_region 8 with (fail)
  have hP3 := rd_place HR2.out.cell (i + 1) (v := (i : Int) + 1) (by omega)
  have HR3 := Lib.hid (HR2.out.next ((Touch.refl [R] W2).setCell List.mem_cons_self 2 (.int .i64 ((i : Int) + 1))) hP3)
  have HT3 := Lib.hid (HT2.out.setCell List.mem_cons_self 2 (.int .i64 ((i : Int) + 1)))
  have Z4 := Lib.hid ((Below.heap_setCell W2 ⟨R, 2, none⟩ (.int .i64 ((i : Int) + 1)) w.heap.size (Ne.symm hRne)).trans Z3.out)
  have hs3 : w.heap.size < (W2.setCell ⟨R, 2, none⟩ (.int .i64 ((i : Int) + 1))).heap.size := by simpa using hs2
  clear hP3 c2 c3' c4 f2 f3 f4 HT2 Z3 HR2
  generalize World.setCell W2 _ _ = W3 at *
  go_wp2_with fail
  refine (HC.out W3 HR3.out).mono ?_
  intro e w4 he
  obtain ⟨v, F, rfl, ho, hF, hr4, ht4⟩ := he.ok rfl
  obtain ⟨p, c, rfl, hl⟩ := ho.slice
  have hw4 : w.heap.size < w4.heap.size := Nat.lt_of_lt_of_le hs3 ht4.size
  have hbA : Below w4.heap.size w4 (w4.alloc (.cells (x.cells (.slice p x.subs.length c)) 28)) := (Below.refl _ _).alloc (Nat.le_refl _) _
  have HO5 := Lib.hid (ho.later hbA)
  have HF5 := Lib.hid hF
  have Z5 := Lib.hid (keep_blk hbA ((ht4.block w.heap.size hs3 (by simp; omega)).trans Z4.out))
  have HT5 := Lib.hid ((HT3.out.trans ht4).later hbA)
  have HR5 := Lib.hid ((HR3.out.next ht4 hr4).later hbA)
  have Y5 := Lib.hid (heap_alloc_new w4 (.cells (x.cells (.slice p x.subs.length c)) 28))
  have hs5 : w.heap.size < (w4.alloc (.cells (x.cells (.slice p x.subs.length c)) 28)).heap.size := Nat.lt_of_lt_of_le hs3 (Nat.le_trans ht4.size hbA.size)
  have HST := Lib.hid (stands_any [41] false w0 A _ R s fl j g' (d + 1) HR5.out (by simp only [List.any_cons, List.any_nil, Bool.or_false, show (41 : UInt8).toNat = 41 from rfl]; simp; omega))
  clear ho hF hr4 ht4 he hbA Z4 HT3 HR3
  unfold Tr.cells at *
  go_wp2_with fail
  generalize hW5 : World.alloc w4 _ = W5 at *
  refine HST.out.mono ?_
  rintro e w6 ⟨rfl, n, rfl⟩
  have hbn : Below W5.heap.size W5 (W5.drewN n) := drewN_below (Below.refl _ _) n
  have HR6 := Lib.hid (HR5.out.later hbn)
  have HT6 := Lib.hid (HT5.out.drewN n)
  have Z6 : Hid ((W5.drewN n).heap[w.heap.size]? = some (.cells noNode 28)) := Lib.hid Z5.out
  have Y6 : Hid ((W5.drewN n).heap[w4.heap.size]? = some (.cells #[.int .i64 (x).kind, .int .u64 (Oc.U (x).w0), .int .u64 (Oc.U (x).w1), .int .u64 (Oc.U (x).w2), .int .u64 (Oc.U (x).w3), .slice p x.subs.length c, .int .i64 (x).num, .int .i64 (x).least, .int .i64 (x).most, .bool (x).bare] 28)) := Lib.hid Y5.out
  have HO6 := Lib.hid (HO5.out.later hbn)
  have hs6 : w.heap.size < (W5.drewN n).heap.size := hs5
  clear hbn HR5 HT5 Z5 Y5 HO5 HST hW5 hs5
  generalize World.drewN W5 n = W6 at *
  have ce : W6.cell? ⟨2, 0, none⟩ = some (.iface 184 (.pointer (some (A 1)))) := (HR6.out.now.errs 1 (by omega)).1
  go_wp2_with fail
  refine (at_err A 1 (by omega) i _).mono ?_
  rintro e w7 ⟨v7, rfl, hv7, hb7⟩
  have Z7 := Lib.hid (keep_blk hb7 Z6.out)
  have HT7 := Lib.hid (HT6.out.later hb7)
  have HV7 := Lib.hid hv7
  clear hb7 hv7 ce
  go_wp2_with (first
    | (refine wpList_store_row rfl 28 (.tmp 2) (.tmp 59) rfl w.heap.size noNode rfl rfl 28 _ Z7.out (by kernel_rfl) rfl (by simp [Value.oneCell']) ?_)
    | fail)
  exact bodyPost_ret (results_row_1 rfl _ _ w.heap.size 28 noNode (0, 0) _ _ rfl rfl (heap_setRow Z7.out) Tryz.underlying28 rfl (by kernel_rfl)) rfl ⟨⟨_, rfl, by exact (HV7.out.setRow hs6 noNode).down (Nat.le_of_lt hs6)⟩, by exact HT7.out.setRow_new (Nat.le_refl _) _⟩
set_option maxRecDepth 100000 in
set_option maxHeartbeats 4000000 in
theorem egroup_ok (w0 : World) (A : Nat → Addr) (w : World) (R : Nat) (s : ByteArray) (hs : s.size ≤ 4294967280) (fl : Int) (i g d : Nat) (hR : RdAt w0 A w R s fl i g d) (hi : i < s.size) (hd : d < 32) (hg : g ≤ 4294967280) (x : Tr) (j g' : Nat) (hb : bt s j = 41) (HC : ∀ w, RdAt w0 A w R s fl (i + 1) (g + 1) (d + 1) → Calls Tryz.prog 44 #[.pointer (some ⟨R, 0, none⟩)] w (NdEnd A R s fl (d + 1) (.ok x j g') w)) :
    Calls Tryz.prog 132 #[.pointer (some ⟨R, 0, none⟩)] w (NdEnd A R s fl d (.ok (.grp (g + 1 : Nat) x) (j + 1) g') w) := by
  have hjl := (bt_txt s).lt hb (by omega)
  have HC := Lib.hid HC
  have hlt := hR.lt
  have hb0 : Below w.heap.size w (w.alloc (.cells noNode 28)) := (Below.refl _ _).alloc (Nat.le_refl _) _
  have HR := Lib.hid (hR.later hb0)
  have Z1 := Lib.hid (heap_alloc_new w (.cells noNode 28))
  have HB0 := Lib.hid hb0
  have hsW : w.heap.size < (w.alloc (.cells noNode 28)).heap.size := by simp
  clear hR hb0
  go_enter Tryz.func132, Tryz.ntmps132
  go_upto_region 1 with (fail)
  generalize World.alloc _ _ = W at *
  have hRne : R ≠ w.heap.size := by omega
  obtain ⟨-, -, c2, c3, c4⟩ := rd5 HR.out.cell
  obtain ⟨f2, f3, f4⟩ := rdf HR.out.cell
  have e4 : ((d : Int) == 32) = false := by rw [beq_eq_false_iff_ne]; omega
  have wg : IntKind.i64.wrap ((g : Int) + 1) = (g : Int) + 1 := IntWalk.i64_in _ (by omega)
  have wd : IntKind.i64.wrap ((d : Int) + 1) = (d : Int) + 1 := IntWalk.i64_in _ (by omega)
  have wi : IntKind.i64.wrap ((i : Int) + 1) = (i : Int) + 1 := IntWalk.i64_in _ (by omega)
  go_upto_region 5 with (fail)
  have hP1 := rd_groups HR.out.cell (g + 1) (v := (g : Int) + 1) (by omega)
  have HR1 := Lib.hid (HR.out.next ((Touch.refl [R] W).setCell List.mem_cons_self 3 (.int .i64 ((g : Int) + 1))) hP1)
  have HT1 := Lib.hid ((Touch.of_below [R] HB0.out).setCell List.mem_cons_self 3 (.int .i64 ((g : Int) + 1)))
  have Z2 := Lib.hid ((Below.heap_setCell W ⟨R, 3, none⟩ (.int .i64 ((g : Int) + 1)) w.heap.size (Ne.symm hRne)).trans Z1.out)
  have hs1 : w.heap.size < (W.setCell ⟨R, 3, none⟩ (.int .i64 ((g : Int) + 1))).heap.size := by simpa using hsW
  clear hP1 c2 c3 c4 f2 f3 f4 HB0 Z1 HR
  generalize World.setCell W _ _ = W1 at *
  obtain ⟨-, -, c2, c3, c4⟩ := rd5 HR1.out.cell
  obtain ⟨f2, f3, f4⟩ := rdf HR1.out.cell
  go_upto_region 6 with (fail)
  have hP2 := rd_open HR1.out.cell (d + 1) (v := (d : Int) + 1) (by omega)
  have HR2 := Lib.hid (HR1.out.next ((Touch.refl [R] W1).setCell List.mem_cons_self 4 (.int .i64 ((d : Int) + 1))) hP2)
  have HT2 := Lib.hid (HT1.out.setCell List.mem_cons_self 4 (.int .i64 ((d : Int) + 1)))
  have Z3 := Lib.hid ((Below.heap_setCell W1 ⟨R, 4, none⟩ (.int .i64 ((d : Int) + 1)) w.heap.size (Ne.symm hRne)).trans Z2.out)
  have hs2 : w.heap.size < (W1.setCell ⟨R, 4, none⟩ (.int .i64 ((d : Int) + 1))).heap.size := by simpa using hs1
  clear hP2 c2 c3 c4 f2 f3 f4 HT1 Z2 HR1
  generalize World.setCell W1 _ _ = W2 at *
  obtain ⟨-, -, c2, c3, c4⟩ := rd5 HR2.out.cell
  obtain ⟨f2, f3, f4⟩ := rdf HR2.out.cell
  have c3' : W2.cell? ⟨R, 3, none⟩ = some (.int .i64 ((g : Int) + 1)) := c3
  clear c3
  go_upto_region 8 with (fail)
  have hP3 := rd_place HR2.out.cell (i + 1) (v := (i : Int) + 1) (by omega)
  have HR3 := Lib.hid (HR2.out.next ((Touch.refl [R] W2).setCell List.mem_cons_self 2 (.int .i64 ((i : Int) + 1))) hP3)
  have HT3 := Lib.hid (HT2.out.setCell List.mem_cons_self 2 (.int .i64 ((i : Int) + 1)))
  have Z4 := Lib.hid ((Below.heap_setCell W2 ⟨R, 2, none⟩ (.int .i64 ((i : Int) + 1)) w.heap.size (Ne.symm hRne)).trans Z3.out)
  have hs3 : w.heap.size < (W2.setCell ⟨R, 2, none⟩ (.int .i64 ((i : Int) + 1))).heap.size := by simpa using hs2
  clear hP3 c2 c3' c4 f2 f3 f4 HT2 Z3 HR2
  generalize World.setCell W2 _ _ = W3 at *
  go_wp2_with fail
  refine (HC.out W3 HR3.out).mono ?_
  intro e w4 he
  obtain ⟨v, F, rfl, ho, hF, hr4, ht4⟩ := he.ok rfl
  obtain ⟨p, c, rfl, hl⟩ := ho.slice
  have hw4 : w.heap.size < w4.heap.size := Nat.lt_of_lt_of_le hs3 ht4.size
  have hbA : Below w4.heap.size w4 (w4.alloc (.cells (x.cells (.slice p x.subs.length c)) 28)) := (Below.refl _ _).alloc (Nat.le_refl _) _
  have HO5 := Lib.hid (ho.later hbA)
  have HF5 := Lib.hid hF
  have Z5 := Lib.hid (keep_blk hbA ((ht4.block w.heap.size hs3 (by simp; omega)).trans Z4.out))
  have HT5 := Lib.hid ((HT3.out.trans ht4).later hbA)
  have HR5 := Lib.hid ((HR3.out.next ht4 hr4).later hbA)
  have Y5 := Lib.hid (heap_alloc_new w4 (.cells (x.cells (.slice p x.subs.length c)) 28))
  have hs5 : w.heap.size < (w4.alloc (.cells (x.cells (.slice p x.subs.length c)) 28)).heap.size := Nat.lt_of_lt_of_le hs3 (Nat.le_trans ht4.size hbA.size)
  have HST := Lib.hid (stands_any [41] true w0 A _ R s fl j g' (d + 1) HR5.out (by rw [hb]; decide))
  clear ho hF hr4 ht4 he hbA Z4 HT3 HR3
  unfold Tr.cells at *
  go_wp2_with fail
  generalize hW5 : World.alloc w4 _ = W5 at *
  refine HST.out.mono ?_
  rintro e w6 ⟨rfl, n, rfl⟩
  have hbn : Below W5.heap.size W5 (W5.drewN n) := drewN_below (Below.refl _ _) n
  have HR6 := Lib.hid (HR5.out.later hbn)
  have HT6 := Lib.hid (HT5.out.drewN n)
  have Z6 : Hid ((W5.drewN n).heap[w.heap.size]? = some (.cells noNode 28)) := Lib.hid Z5.out
  have Y6 : Hid ((W5.drewN n).heap[w4.heap.size]? = some (.cells #[.int .i64 (x).kind, .int .u64 (Oc.U (x).w0), .int .u64 (Oc.U (x).w1), .int .u64 (Oc.U (x).w2), .int .u64 (Oc.U (x).w3), .slice p x.subs.length c, .int .i64 (x).num, .int .i64 (x).least, .int .i64 (x).most, .bool (x).bare] 28)) := Lib.hid Y5.out
  have HO6 := Lib.hid (HO5.out.later hbn)
  have hs6 : w.heap.size < (W5.drewN n).heap.size := hs5
  clear hbn HR5 HT5 Z5 Y5 HO5 HST hW5 hs5
  generalize World.drewN W5 n = W6 at *
  obtain ⟨-, -, c2, c3, c4⟩ := rd5 HR6.out.cell
  obtain ⟨f2, f3, f4⟩ := rdf HR6.out.cell
  have c4' : W6.cell? ⟨R, 4, none⟩ = some (.int .i64 ((d : Int) + 1)) := c4
  have wd2 : IntKind.i64.wrap ((d : Int) + 1 - 1) = (d : Int) := by rw [show (d : Int) + 1 - 1 = d by omega]; exact IntWalk.i64_in _ (by omega)
  have wj : IntKind.i64.wrap ((j : Int) + 1) = (j : Int) + 1 := IntWalk.i64_in _ (by omega)
  clear c4 c3 hb
  go_upto_region 14 with (fail)
  have hP7 := rd_open HR6.out.cell d (v := (d : Int)) rfl
  have HT7 := Lib.hid (HT6.out.setCell List.mem_cons_self 4 (.int .i64 (d : Int)))
  have HR7 := Lib.hid (HR6.out.next ((Touch.refl [R] W6).setCell List.mem_cons_self 4 (.int .i64 (d : Int))) hP7)
  have Z7 := Lib.hid ((Below.heap_setCell W6 ⟨R, 4, none⟩ (.int .i64 (d : Int)) w.heap.size (Ne.symm hRne)).trans Z6.out)
  have hs7 : w.heap.size < (W6.setCell ⟨R, 4, none⟩ (.int .i64 (d : Int))).heap.size := by simpa using hs6
  have HO7 := Lib.hid (HO6.out.touch HF5.out (by omega) ((Touch.refl [R] W6).setCell List.mem_cons_self 4 (.int .i64 (d : Int))))
  have h4w : w4.heap.size ≠ R := by omega
  have Y7 := Lib.hid ((Below.heap_setCell W6 ⟨R, 4, none⟩ (.int .i64 (d : Int)) w4.heap.size h4w).trans Y6.out)
  clear hP7 c2 c4' f2 f3 f4 HT6 HR6 Z6 Y6 HO6 hs6
  generalize World.setCell W6 _ _ = W7 at *
  obtain ⟨-, -, c2, -, -⟩ := rd5 HR7.out.cell
  obtain ⟨f2, -, -⟩ := rdf HR7.out.cell
  have hP8 := rd_place HR7.out.cell (j + 1) (v := (j : Int) + 1) (by omega)
  have HP8 := Lib.hid hP8
  have HT8 := Lib.hid (HT7.out.setCell List.mem_cons_self 2 (.int .i64 ((j : Int) + 1)))
  have Z8 := Lib.hid ((Below.heap_setCell W7 ⟨R, 2, none⟩ (.int .i64 ((j : Int) + 1)) w.heap.size (Ne.symm hRne)).trans Z7.out)
  have hs8 : w.heap.size < (W7.setCell ⟨R, 2, none⟩ (.int .i64 ((j : Int) + 1))).heap.size := by simpa using hs7
  have HO8 := Lib.hid (HO7.out.touch HF5.out (by omega) ((Touch.refl [R] W7).setCell List.mem_cons_self 2 (.int .i64 ((j : Int) + 1))))
  have Y8 := Lib.hid ((Below.heap_setCell W7 ⟨R, 2, none⟩ (.int .i64 ((j : Int) + 1)) w4.heap.size h4w).trans Y7.out)
  clear hP8 HT7 HR7 Z7 HO7 Y7 hs7
  obtain ⟨T, hT⟩ : ∃ T, Tr.grp ((g + 1 : Nat) : Int) x = T := ⟨_, rfl⟩
  have hT2 : Tr.grp ((g : Int) + 1) x = T := by rw [← hT, Int.natCast_add]; rfl
  have hgr := fun w B v hv => group_any x ((g : Int) + 1) w B v hv
  rw [hT2] at hgr
  have HGR := Lib.hid hgr; have HT9 := Lib.hid hT
  clear hgr hT hT2
  go_wp2_with (first
    | (refine wpList_load_row rfl 28 (.tmp 6) rfl w4.heap.size rfl 28 _ (0, 0) _ Y8.out Tryz.underlying28 rfl (by kernel_rfl) ?_)
    | fail)
  refine (HGR.out _ (fun b => b ∈ F) _ ⟨_, rfl, HO8.out.trees⟩).mono ?_
  rintro e w9 ⟨s8, F8, rfl, ho8, hF8, hb8⟩
  obtain ⟨p8, c8, rfl, hl8⟩ := ho8.slice
  have HO9 := Lib.hid ho8
  have Z9 := Lib.hid (keep_blk hb8 Z8.out)
  have HP9 := Lib.hid (keep_blk hb8 HP8.out)
  have HTT := Lib.hid (HT8.out.later hb8)
  have hk1 : ∀ b, b ∈ F8 → b ≠ w.heap.size := fun b hb => by have := hF8 b hb; omega
  have hk2 : ∀ b, b ∈ F8 → w.heap.size ≤ b := fun b hb => by have := hF8 b hb; omega
  have HK1 := Lib.hid hk1; have HK2 := Lib.hid hk2
  clear hk1 hk2 ho8 hF8 hb8 Z8 HP8 HT8 HO8 Y8 c2 f2
  unfold Tr.cells at *
  go_wp2_with (first
    | (refine wpList_store_row rfl 28 (.tmp 2) (.tmp 79) rfl w.heap.size #[.int .i64 (T).kind, .int .u64 (Oc.U (T).w0), .int .u64 (Oc.U (T).w1), .int .u64 (Oc.U (T).w2), .int .u64 (Oc.U (T).w3), .slice p8 T.subs.length c8, .int .i64 (T).num, .int .i64 (T).least, .int .i64 (T).most, .bool (T).bare] rfl rfl 28 _ Z9.out (by kernel_rfl) rfl (by simp [Value.oneCell']) ?_)
    | fail)
  refine bodyPost_ret (results_row_1 rfl _ _ w.heap.size 28 #[.int .i64 (T).kind, .int .u64 (Oc.U (T).w0), .int .u64 (Oc.U (T).w1), .int .u64 (Oc.U (T).w2), .int .u64 (Oc.U (T).w3), .slice p8 T.subs.length c8, .int .i64 (T).num, .int .i64 (T).least, .int .i64 (T).most, .bool (T).bare] (0, 0) _ _ rfl rfl (heap_setRow Z9.out) Tryz.underlying28 rfl (by kernel_rfl)) rfl ⟨⟨.slice p8 T.subs.length c8, F8, ?_, ?_, HK2.out, (heap_setRow_other _ _ _ hRne).trans HP9.out⟩, HTT.out.setRow_new (Nat.le_refl _) _⟩
  · rw [HT9.out]; rfl
  · rw [HT9.out]; exact HO9.out.keep fun b hb => heap_setRow_other _ _ _ (HK1.out b hb)
/-- What group answers. -/
theorem egroup_any (w0 : World) (A : Nat → Addr) (R : Nat) (s : ByteArray) (hs : s.size ≤ 1024) (fl : Int) : ∀ (r d : Nat), r + d = 32 → ∀ (i g : Nat) (w : World), i < s.size → 2 * g ≤ i + d → bt s i = 40 → RdAt w0 A w R s fl i g d →
    Calls Tryz.prog 132 #[.pointer (some ⟨R, 0, none⟩)] w (NdEnd A R s fl d (Ep.group (bt s) s.size (icB fl) (nlB fl) r i g) w) := by
  intro r
  induction r with
  | zero =>
    intro d hd i g w hi _ _ hR
    exact egroup_deep w0 A w R s (by omega) fl i g d hR hi (by omega)
  | succ r ih =>
    intro d hd i g w hi hg hc hR
    have hpat : ∀ O, Ep.alts (bt s) s.size (icB fl) (nlB fl) (Ep.group (bt s) s.size (icB fl) (nlB fl) r) (s.size + 1) [] (i + 1) (g + 1) = O → ∀ w, RdAt w0 A w R s fl (i + 1) (g + 1) (d + 1) → Calls Tryz.prog 44 #[.pointer (some ⟨R, 0, none⟩)] w (NdEnd A R s fl (d + 1) O w) := fun O hO w hR =>
      pattern_any w0 A w R s (by omega) fl (i + 1) (g + 1) (d + 1) hR (by omega) _ (Ep.group_next (bt_txt s) r) (Ep.group_right (bt_txt s) hs r (d + 1) (by omega)) (by omega) (fun i' g' w' hi' hg' hc' hR' => ih (d + 1) (by omega) i' g' w' hi' hg' hc' hR') O hO
    unfold Ep.group
    cases hO : Ep.alts (bt s) s.size (icB fl) (nlB fl) (Ep.group (bt s) s.size (icB fl) (nlB fl) r) (s.size + 1) [] (i + 1) (g + 1) with
    | err c q => exact egroup_err w0 A w R s (by omega) fl i g d hR hi (by omega) (by omega) c q (hpat _ hO)
    | ok x j g' =>
      by_cases hb : bt s j = 41
      · simp only [hb, if_true]
        exact egroup_ok w0 A w R s (by omega) fl i g d hR hi (by omega) (by omega) x j g' hb (hpat _ hO)
      · simp only [hb, if_false]
        exact egroup_open w0 A w R s (by omega) fl i g d hR hi (by omega) (by omega) x j g' hb (hpat _ hO)
/-- What pattern answers at the front. -/
theorem pat_any (w0 : World) (A : Nat → Addr) (w : World) (R : Nat) (s : ByteArray) (hs : s.size ≤ 1024) (fl : Int) (hR : RdAt w0 A w R s fl 0 0 0) (O : Ep.Out) (hO : Ep.pat (bt s) s.size (icB fl) (nlB fl) 32 0 0 = O) :
    Calls Tryz.prog 44 #[.pointer (some ⟨R, 0, none⟩)] w (NdEnd A R s fl 0 O w) :=
  pattern_any w0 A w R s (by omega) fl 0 0 0 hR (by omega) _ (Ep.group_next (bt_txt s) 32) (Ep.group_right (bt_txt s) hs 32 0 (by omega)) (by omega) (fun i g w hi hg hc hR => egroup_any w0 A R s hs fl 32 0 (by omega) i g w hi hg hc hR) O hO
end Go.Proofs.YtlbhbjmobcikfaaGreatDoor
/- What Parse of ere answers: what chapter 6 promises. -/
namespace Go.Proofs.YtlbhbjmobcikfaaGreatDoor
open Go.RowKit
set_option maxRecDepth 100000 in
set_option maxHeartbeats 4000000 in
theorem whole_err (w0 : World) (A : Nat → Addr) (w : World) (R : Nat) (s : ByteArray) (fl : Int) (hR : RdAt w0 A w R s fl 0 0 0) (c : Nat) (q : Int) (HC : ∀ w, RdAt w0 A w R s fl 0 0 0 → Calls Tryz.prog 44 #[.pointer (some ⟨R, 0, none⟩)] w (NdEnd A R s fl 0 (.err c q) w)) :
    Calls Tryz.prog 30 #[.pointer (some ⟨R, 0, none⟩)] w (NdEnd A R s fl 0 (.err c q) w) := by
  have HC := Lib.hid HC
  have hlt := hR.lt
  have hb0 : Below w.heap.size w (w.alloc (.cells noNode 28)) := (Below.refl _ _).alloc (Nat.le_refl _) _
  have HR := Lib.hid (hR.later hb0)
  have Z1 := Lib.hid (heap_alloc_new w (.cells noNode 28))
  have HB0 := Lib.hid hb0
  have hsW : w.heap.size < (w.alloc (.cells noNode 28)).heap.size := by simp
  have hRne : R ≠ w.heap.size := by omega
  clear hR hb0
  go_enter Tryz.func30, Tryz.ntmps30
  go_wp2_with fail
  generalize World.alloc _ _ = W at *
  refine (HC.out W HR.out).mono ?_
  intro e w2 he
  obtain ⟨v, rfl, hv, ht2⟩ := he.err rfl
  obtain ⟨x, rfl⟩ := hv.iface
  have hbA : Below w2.heap.size w2 (w2.alloc (.cells noNode 28)) := (Below.refl _ _).alloc (Nat.le_refl _) _
  have HV := Lib.hid (hv.later hbA)
  have Z2 := Lib.hid (keep_blk hbA ((ht2.block w.heap.size hsW (by simp; omega)).trans Z1.out))
  have HT := Lib.hid (((Touch.of_below [R] HB0.out).trans ht2).later hbA)
  clear hv ht2 he hbA
  go_wp2_with (first
    | (refine wpList_store_row rfl 28 (.tmp 2) (.tmp 13) rfl w.heap.size noNode rfl rfl 28 _ Z2.out (by kernel_rfl) rfl (by simp [Value.oneCell']) ?_)
    | fail)
  exact bodyPost_ret (results_row_1 rfl _ _ w.heap.size 28 noNode (0, 0) _ _ rfl rfl (heap_setRow Z2.out) Tryz.underlying28 rfl (by kernel_rfl)) rfl ⟨⟨_, rfl, by exact (HV.out.setRow hsW noNode).down (Nat.le_of_lt hsW)⟩, by exact HT.out.setRow_new (Nat.le_refl _) _⟩
set_option maxRecDepth 100000 in
set_option maxHeartbeats 4000000 in
theorem whole_paren (w0 : World) (A : Nat → Addr) (w : World) (R : Nat) (s : ByteArray) (fl : Int) (hR : RdAt w0 A w R s fl 0 0 0) (x : Tr) (j g : Nat) (hj : j < s.size) (HC : ∀ w, RdAt w0 A w R s fl 0 0 0 → Calls Tryz.prog 44 #[.pointer (some ⟨R, 0, none⟩)] w (NdEnd A R s fl 0 (.ok x j g) w)) :
    Calls Tryz.prog 30 #[.pointer (some ⟨R, 0, none⟩)] w (NdEnd A R s fl 0 (.err 2 j) w) := by
  have HC := Lib.hid HC
  have hlt := hR.lt
  have hb0 : Below w.heap.size w (w.alloc (.cells noNode 28)) := (Below.refl _ _).alloc (Nat.le_refl _) _
  have HR := Lib.hid (hR.later hb0)
  have Z1 := Lib.hid (heap_alloc_new w (.cells noNode 28))
  have HB0 := Lib.hid hb0
  have hsW : w.heap.size < (w.alloc (.cells noNode 28)).heap.size := by simp
  have hRne : R ≠ w.heap.size := by omega
  clear hR hb0
  go_enter Tryz.func30, Tryz.ntmps30
  go_wp2_with fail
  generalize World.alloc _ _ = W at *
  refine (HC.out W HR.out).mono ?_
  intro e w2 he
  obtain ⟨v, F, rfl, ho, hF, hr2, ht2⟩ := he.ok rfl
  obtain ⟨p, c, rfl, hl⟩ := ho.slice
  have hbA : Below w2.heap.size w2 (w2.alloc (.cells (x.cells (.slice p x.subs.length c)) 28)) := (Below.refl _ _).alloc (Nat.le_refl _) _
  have HO3 := Lib.hid (ho.later hbA)
  have HF3 := Lib.hid hF
  have Z3 := Lib.hid (keep_blk hbA ((ht2.block w.heap.size hsW (by simp; omega)).trans Z1.out))
  have HT3 := Lib.hid (((Touch.of_below [R] HB0.out).trans ht2).later hbA)
  have HR3 := Lib.hid ((HR.out.next ht2 hr2).later hbA)
  have Y3 := Lib.hid (heap_alloc_new w2 (.cells (x.cells (.slice p x.subs.length c)) 28))
  have hs3 : w.heap.size < (w2.alloc (.cells (x.cells (.slice p x.subs.length c)) 28)).heap.size := Nat.lt_of_lt_of_le hsW (Nat.le_trans ht2.size hbA.size)
  clear ho hF hr2 ht2 he hbA HR Z1 HB0
  unfold Tr.cells at *
  go_upto_region 4 with (fail)
  generalize World.alloc w2 _ = W3 at *
  obtain ⟨c0, c1, c2, -, -⟩ := rd5 HR3.out.cell
  have dj : decide ((j : Int) < s.size) = true := by simp; omega
  have dj' : decide (j < s.size) = true := by simp; omega
  go_quiet (fail)
  have hbn : Below W3.heap.size W3 (W3.drewN nq) := drewN_below (Below.refl _ _) nq
  have HO4 := Lib.hid (HO3.out.later hbn)
  have Z4 : Hid ((W3.drewN nq).heap[w.heap.size]? = some (.cells noNode 28)) := Lib.hid Z3.out
  have Y4 : Hid ((W3.drewN nq).heap[w2.heap.size]? = some (.cells #[.int .i64 (x).kind, .int .u64 (Oc.U (x).w0), .int .u64 (Oc.U (x).w1), .int .u64 (Oc.U (x).w2), .int .u64 (Oc.U (x).w3), .slice p x.subs.length c, .int .i64 (x).num, .int .i64 (x).least, .int .i64 (x).most, .bool (x).bare] 28)) := Lib.hid Y3.out
  have HT4 := Lib.hid (HT3.out.drewN nq)
  have HR4 := Lib.hid (HR3.out.later hbn)
  have hs4 : w.heap.size < (W3.drewN nq).heap.size := hs3
  clear hbn HO3 Z3 Y3 HT3 HR3 hs3 c0 c1 c2
  generalize World.drewN W3 nq = W4 at *
  have HRx := HR4
  have ce : W4.cell? ⟨2, 0, none⟩ = some (.iface 184 (.pointer (some (A 1)))) := (HRx.out.now.errs 1 (by omega)).1
  go_wp2_with fail
  refine (fails_any w0 A 1 (by omega) W4 R s fl j g 0 HRx.out).mono ?_
  intro e w7 he
  have he' := he
  obtain ⟨v, rfl, hv, ht7⟩ := he.err rfl
  have HE := Lib.hid he'
  have Z7 := Lib.hid ((ht7.block w.heap.size hs4 (by simp; omega)).trans Z4.out)
  clear hv ht7 he he' ce
  go_wp2_with (first
    | (refine wpList_store_row rfl 28 (.tmp 2) (.tmp 28) rfl w.heap.size noNode rfl rfl 28 _ Z7.out (by kernel_rfl) rfl (by simp [Value.oneCell']) ?_)
    | fail)
  exact bodyPost_ret (results_row_1 rfl _ _ w.heap.size 28 noNode (0, 0) _ _ rfl rfl (heap_setRow Z7.out) Tryz.underlying28 rfl (by kernel_rfl)) rfl (by exact (HE.out.b.pass HT4.out hs4 (Nat.le_refl _) (Nat.le_of_lt hs4) hRne _).nd)
set_option maxRecDepth 100000 in
set_option maxHeartbeats 4000000 in
theorem whole_big (w0 : World) (A : Nat → Addr) (w : World) (R : Nat) (s : ByteArray) (fl : Int) (hR : RdAt w0 A w R s fl 0 0 0) (x : Tr) (j g : Nat) (hj : j = s.size) (hf : x.InForm) (hbig : 2000 < x.szT) (HC : ∀ w, RdAt w0 A w R s fl 0 0 0 → Calls Tryz.prog 44 #[.pointer (some ⟨R, 0, none⟩)] w (NdEnd A R s fl 0 (.ok x j g) w)) :
    Calls Tryz.prog 30 #[.pointer (some ⟨R, 0, none⟩)] w (NdEnd A R s fl 0 (.err 10 j) w) := by
  have HC := Lib.hid HC
  have hlt := hR.lt
  have hb0 : Below w.heap.size w (w.alloc (.cells noNode 28)) := (Below.refl _ _).alloc (Nat.le_refl _) _
  have HR := Lib.hid (hR.later hb0)
  have Z1 := Lib.hid (heap_alloc_new w (.cells noNode 28))
  have HB0 := Lib.hid hb0
  have hsW : w.heap.size < (w.alloc (.cells noNode 28)).heap.size := by simp
  have hRne : R ≠ w.heap.size := by omega
  clear hR hb0
  go_enter Tryz.func30, Tryz.ntmps30
  go_wp2_with fail
  generalize World.alloc _ _ = W at *
  refine (HC.out W HR.out).mono ?_
  intro e w2 he
  obtain ⟨v, F, rfl, ho, hF, hr2, ht2⟩ := he.ok rfl
  obtain ⟨p, c, rfl, hl⟩ := ho.slice
  have hbA : Below w2.heap.size w2 (w2.alloc (.cells (x.cells (.slice p x.subs.length c)) 28)) := (Below.refl _ _).alloc (Nat.le_refl _) _
  have HO3 := Lib.hid (ho.later hbA)
  have HF3 := Lib.hid hF
  have Z3 := Lib.hid (keep_blk hbA ((ht2.block w.heap.size hsW (by simp; omega)).trans Z1.out))
  have HT3 := Lib.hid (((Touch.of_below [R] HB0.out).trans ht2).later hbA)
  have HR3 := Lib.hid ((HR.out.next ht2 hr2).later hbA)
  have Y3 := Lib.hid (heap_alloc_new w2 (.cells (x.cells (.slice p x.subs.length c)) 28))
  have hs3 : w.heap.size < (w2.alloc (.cells (x.cells (.slice p x.subs.length c)) 28)).heap.size := Nat.lt_of_lt_of_le hsW (Nat.le_trans ht2.size hbA.size)
  clear ho hF hr2 ht2 he hbA HR Z1 HB0
  unfold Tr.cells at *
  go_upto_region 4 with (fail)
  generalize World.alloc w2 _ = W3 at *
  obtain ⟨c0, c1, c2, -, -⟩ := rd5 HR3.out.cell
  have dj : decide ((j : Int) < s.size) = false := by simp; omega
  have dj' : decide (j < s.size) = false := by simp; omega
  go_quiet (fail)
  have hbn : Below W3.heap.size W3 (W3.drewN nq) := drewN_below (Below.refl _ _) nq
  have HO4 := Lib.hid (HO3.out.later hbn)
  have Z4 : Hid ((W3.drewN nq).heap[w.heap.size]? = some (.cells noNode 28)) := Lib.hid Z3.out
  have Y4 : Hid ((W3.drewN nq).heap[w2.heap.size]? = some (.cells #[.int .i64 (x).kind, .int .u64 (Oc.U (x).w0), .int .u64 (Oc.U (x).w1), .int .u64 (Oc.U (x).w2), .int .u64 (Oc.U (x).w3), .slice p x.subs.length c, .int .i64 (x).num, .int .i64 (x).least, .int .i64 (x).most, .bool (x).bare] 28)) := Lib.hid Y3.out
  have HT4 := Lib.hid (HT3.out.drewN nq)
  have HR4 := Lib.hid (HR3.out.later hbn)
  have hs4 : w.heap.size < (W3.drewN nq).heap.size := hs3
  clear hbn HO3 Z3 Y3 HT3 HR3 hs3 c0 c1 c2
  generalize World.drewN W3 nq = W4 at *
  have HSZ := Lib.hid (treeSize_any x hf W4 (fun b => b ∈ F) _ ⟨_, rfl, HO4.out.trees⟩)
  have hle := Tr.szT_le x
  have hd : decide ((2000 : Int) < x.szT) = true := by simp; omega
  have hd' : decide (2000 < x.szT) = true := by simp; omega
  generalize x.szT = N at *
  clear hf hbig hle
  unfold Tr.cells at *
  go_wp2_with (first
    | (refine wpList_load_row rfl 28 (.tmp 4) rfl w2.heap.size rfl 28 _ (0, 0) _ Y4.out Tryz.underlying28 rfl (by kernel_rfl) ?_)
    | fail)
  refine HSZ.out.mono ?_
  rintro e w5 ⟨rfl, hb5⟩
  have HO5 := Lib.hid (HO4.out.later hb5)
  have Z5 := Lib.hid (keep_blk hb5 Z4.out)
  have Y5 := Lib.hid (keep_blk hb5 Y4.out)
  have HT5 := Lib.hid (HT4.out.later hb5)
  have HRx := Lib.hid (HR4.out.later hb5)
  have hs5 : w.heap.size < w5.heap.size := Nat.lt_of_lt_of_le hs4 hb5.size
  clear hb5 HO4 Z4 Y4 HT4 HR4 HSZ
  have ce : w5.cell? ⟨10, 0, none⟩ = some (.iface 184 (.pointer (some (A 9)))) := (HRx.out.now.errs 9 (by omega)).1
  go_wp2_with fail
  refine (fails_any w0 A 9 (by omega) w5 R s fl j g 0 HRx.out).mono ?_
  intro e w7 he
  have he' := he
  obtain ⟨v, rfl, hv, ht7⟩ := he.err rfl
  have HE := Lib.hid he'
  have Z7 := Lib.hid ((ht7.block w.heap.size hs5 (by simp; omega)).trans Z5.out)
  clear hv ht7 he he' ce
  go_wp2_with (first
    | (refine wpList_store_row rfl 28 (.tmp 2) (.tmp 36) rfl w.heap.size noNode rfl rfl 28 _ Z7.out (by kernel_rfl) rfl (by simp [Value.oneCell']) ?_)
    | fail)
  exact bodyPost_ret (results_row_1 rfl _ _ w.heap.size 28 noNode (0, 0) _ _ rfl rfl (heap_setRow Z7.out) Tryz.underlying28 rfl (by kernel_rfl)) rfl (by exact (HE.out.b.pass HT5.out hs5 (Nat.le_refl _) (Nat.le_of_lt hs5) hRne _).nd)
set_option maxRecDepth 100000 in
set_option maxHeartbeats 4000000 in
theorem whole_ok (w0 : World) (A : Nat → Addr) (w : World) (R : Nat) (s : ByteArray) (fl : Int) (hR : RdAt w0 A w R s fl 0 0 0) (x : Tr) (j g : Nat) (hj : j = s.size) (hf : x.InForm) (hbig : x.szT ≤ 2000) (HC : ∀ w, RdAt w0 A w R s fl 0 0 0 → Calls Tryz.prog 44 #[.pointer (some ⟨R, 0, none⟩)] w (NdEnd A R s fl 0 (.ok x j g) w)) :
    Calls Tryz.prog 30 #[.pointer (some ⟨R, 0, none⟩)] w (NdEnd A R s fl 0 (.ok x j g) w) := by
  have HC := Lib.hid HC
  have hlt := hR.lt
  have hb0 : Below w.heap.size w (w.alloc (.cells noNode 28)) := (Below.refl _ _).alloc (Nat.le_refl _) _
  have HR := Lib.hid (hR.later hb0)
  have Z1 := Lib.hid (heap_alloc_new w (.cells noNode 28))
  have HB0 := Lib.hid hb0
  have hsW : w.heap.size < (w.alloc (.cells noNode 28)).heap.size := by simp
  have hRne : R ≠ w.heap.size := by omega
  clear hR hb0
  go_enter Tryz.func30, Tryz.ntmps30
  go_wp2_with fail
  generalize World.alloc _ _ = W at *
  refine (HC.out W HR.out).mono ?_
  intro e w2 he
  obtain ⟨v, F, rfl, ho, hF, hr2, ht2⟩ := he.ok rfl
  obtain ⟨p, c, rfl, hl⟩ := ho.slice
  have hbA : Below w2.heap.size w2 (w2.alloc (.cells (x.cells (.slice p x.subs.length c)) 28)) := (Below.refl _ _).alloc (Nat.le_refl _) _
  have HO3 := Lib.hid (ho.later hbA)
  have HF3 := Lib.hid hF
  have Z3 := Lib.hid (keep_blk hbA ((ht2.block w.heap.size hsW (by simp; omega)).trans Z1.out))
  have HT3 := Lib.hid (((Touch.of_below [R] HB0.out).trans ht2).later hbA)
  have HR3 := Lib.hid ((HR.out.next ht2 hr2).later hbA)
  have Y3 := Lib.hid (heap_alloc_new w2 (.cells (x.cells (.slice p x.subs.length c)) 28))
  have hs3 : w.heap.size < (w2.alloc (.cells (x.cells (.slice p x.subs.length c)) 28)).heap.size := Nat.lt_of_lt_of_le hsW (Nat.le_trans ht2.size hbA.size)
  clear ho hF hr2 ht2 he hbA HR Z1 HB0
  unfold Tr.cells at *
  go_upto_region 4 with (fail)
  generalize World.alloc w2 _ = W3 at *
  obtain ⟨c0, c1, c2, -, -⟩ := rd5 HR3.out.cell
  have dj : decide ((j : Int) < s.size) = false := by simp; omega
  have dj' : decide (j < s.size) = false := by simp; omega
  go_quiet (fail)
  have hbn : Below W3.heap.size W3 (W3.drewN nq) := drewN_below (Below.refl _ _) nq
  have HO4 := Lib.hid (HO3.out.later hbn)
  have Z4 : Hid ((W3.drewN nq).heap[w.heap.size]? = some (.cells noNode 28)) := Lib.hid Z3.out
  have Y4 : Hid ((W3.drewN nq).heap[w2.heap.size]? = some (.cells #[.int .i64 (x).kind, .int .u64 (Oc.U (x).w0), .int .u64 (Oc.U (x).w1), .int .u64 (Oc.U (x).w2), .int .u64 (Oc.U (x).w3), .slice p x.subs.length c, .int .i64 (x).num, .int .i64 (x).least, .int .i64 (x).most, .bool (x).bare] 28)) := Lib.hid Y3.out
  have HT4 := Lib.hid (HT3.out.drewN nq)
  have HR4 := Lib.hid (HR3.out.later hbn)
  have hs4 : w.heap.size < (W3.drewN nq).heap.size := hs3
  clear hbn HO3 Z3 Y3 HT3 HR3 hs3 c0 c1 c2
  generalize World.drewN W3 nq = W4 at *
  have HSZ := Lib.hid (treeSize_any x hf W4 (fun b => b ∈ F) _ ⟨_, rfl, HO4.out.trees⟩)
  have hle := Tr.szT_le x
  have hd : decide ((2000 : Int) < x.szT) = false := by simp; omega
  have hd' : decide (2000 < x.szT) = false := by simp; omega
  generalize x.szT = N at *
  clear hf hbig hle
  unfold Tr.cells at *
  go_wp2_with (first
    | (refine wpList_load_row rfl 28 (.tmp 4) rfl w2.heap.size rfl 28 _ (0, 0) _ Y4.out Tryz.underlying28 rfl (by kernel_rfl) ?_)
    | fail)
  refine HSZ.out.mono ?_
  rintro e w5 ⟨rfl, hb5⟩
  have HO5 := Lib.hid (HO4.out.later hb5)
  have Z5 := Lib.hid (keep_blk hb5 Z4.out)
  have Y5 := Lib.hid (keep_blk hb5 Y4.out)
  have HT5 := Lib.hid (HT4.out.later hb5)
  have HRx := Lib.hid (HR4.out.later hb5)
  have hs5 : w.heap.size < w5.heap.size := Nat.lt_of_lt_of_le hs4 hb5.size
  clear hb5 HO4 Z4 Y4 HT4 HR4 HSZ
  have hk1 : ∀ b, b ∈ F → b ≠ w.heap.size := fun b hb => by have := HF3.out b hb; omega
  have hk2 : ∀ b, b ∈ F → w.heap.size ≤ b := fun b hb => by have := HF3.out b hb; omega
  have HK1 := Lib.hid hk1; have HK2 := Lib.hid hk2
  clear hk1 hk2
  go_wp2_with (first
    | (refine wpList_load_row rfl 28 (.tmp 4) rfl w2.heap.size rfl 28 _ (0, 0) _ Y5.out Tryz.underlying28 rfl (by kernel_rfl) ?_)
    | (refine wpList_store_row rfl 28 (.tmp 2) (.tmp 38) rfl w.heap.size #[.int .i64 (x).kind, .int .u64 (Oc.U (x).w0), .int .u64 (Oc.U (x).w1), .int .u64 (Oc.U (x).w2), .int .u64 (Oc.U (x).w3), .slice p x.subs.length c, .int .i64 (x).num, .int .i64 (x).least, .int .i64 (x).most, .bool (x).bare] rfl rfl 28 _ Z5.out (by kernel_rfl) rfl (by simp [Value.oneCell']) ?_)
    | fail)
  exact bodyPost_ret (results_row_1 rfl _ _ w.heap.size 28 #[.int .i64 (x).kind, .int .u64 (Oc.U (x).w0), .int .u64 (Oc.U (x).w1), .int .u64 (Oc.U (x).w2), .int .u64 (Oc.U (x).w3), .slice p x.subs.length c, .int .i64 (x).num, .int .i64 (x).least, .int .i64 (x).most, .bool (x).bare] (0, 0) _ _ rfl rfl (heap_setRow Z5.out) Tryz.underlying28 rfl (by kernel_rfl)) rfl ⟨⟨.slice p x.subs.length c, F, rfl, HO5.out.keep fun b hb => heap_setRow_other _ _ _ (HK1.out b hb), HK2.out, (heap_setRow_other _ _ _ hRne).trans HRx.out.cell⟩, HT5.out.setRow_new (Nat.le_refl _) _⟩
/-- What whole answers. -/
theorem ewhole_any (w0 : World) (A : Nat → Addr) (w : World) (R : Nat) (s : ByteArray) (hs : s.size ≤ 1024) (fl : Int) (hR : RdAt w0 A w R s fl 0 0 0) :
    Calls Tryz.prog 30 #[.pointer (some ⟨R, 0, none⟩)] w (NdEnd A R s fl 0 (Ep.whole (bt s) s.size (icB fl) (nlB fl)) w) := by
  have hp : ∀ O, Ep.pat (bt s) s.size (icB fl) (nlB fl) 32 0 0 = O → ∀ w, RdAt w0 A w R s fl 0 0 0 → Calls Tryz.prog 44 #[.pointer (some ⟨R, 0, none⟩)] w (NdEnd A R s fl 0 O w) := fun O hO w hR => pat_any w0 A w R s hs fl hR O hO
  unfold Ep.whole
  cases hO : Ep.pat (bt s) s.size (icB fl) (nlB fl) 32 0 0 with
  | err c q => exact whole_err w0 A w R s fl hR c q (hp _ hO)
  | ok x j g =>
    have hn := Ep.alts_next (bt_txt s) (Ep.group_next (bt_txt s) 32) (by omega) hO
    have hf := Ep.alts_form (bt_txt s) (Ep.group_next (bt_txt s) 32) (Ep.group_right (bt_txt s) hs 32 0 (by omega)) (by omega) (fun u hu => by cases hu) (by omega) hO
    by_cases hj : j < s.size
    · simp only [hj, if_true]; exact whole_paren w0 A w R s fl hR x j g hj (hp _ hO)
    · simp only [hj, if_false]
      have hjs : j = s.size := by omega
      by_cases hb : 2000 < x.szT
      · simp only [hb, if_true]; rw [← hjs]; exact whole_big w0 A w R s fl hR x j g hjs hf.1 hb (hp _ hO)
      · simp only [hb, if_false]; exact whole_ok w0 A w R s fl hR x j g hjs hf.1 (by omega) (hp _ hO)
/-- What Parse ends with. -/
def PaEnd (A : Nat → Addr) (O : Ep.Out) (w : World) (e : Ending) (w' : World) : Prop :=
  (match O with
  | .ok t _ g => ∃ v F, e = .returned (.tuple #[.agg (t.cells v), .int .i64 g, .nilIface]) ∧ Owned w' v t.subs F ∧ (∀ b, b ∈ F → w.heap.size ≤ b)
  | .err c q => ∃ v, e = .returned (.tuple #[.agg noNode, .int .i64 0, v]) ∧ ErrOne A w.heap.size w' v c q) ∧ Below w.heap.size w w'
theorem PaEnd.ok {A : Nat → Addr} {O : Ep.Out} {w : World} {e : Ending} {w' : World} (h : PaEnd A O w e w') {t : Tr} {j g : Nat} (hO : O = .ok t j g) :
    ∃ v F, e = .returned (.tuple #[.agg (t.cells v), .int .i64 g, .nilIface]) ∧ Owned w' v t.subs F ∧ (∀ b, b ∈ F → w.heap.size ≤ b) ∧ Below w.heap.size w w' := by
  subst hO; obtain ⟨⟨v, F, h1, h2, h3⟩, h4⟩ := h; exact ⟨v, F, h1, h2, h3, h4⟩
theorem PaEnd.err {A : Nat → Addr} {O : Ep.Out} {w : World} {e : Ending} {w' : World} (h : PaEnd A O w e w') {c : Nat} {q : Int} (hO : O = .err c q) :
    ∃ v, e = .returned (.tuple #[.agg noNode, .int .i64 0, v]) ∧ ErrOne A w.heap.size w' v c q ∧ Below w.heap.size w w' := by
  subst hO; obtain ⟨⟨v, h1, h2⟩, h4⟩ := h; exact ⟨v, h1, h2, h4⟩
theorem all_oneCell_node (t : Tr) (p : Option Addr) (l c : Nat) : (#[.int .i64 t.kind, .int .u64 (Oc.U t.w0), .int .u64 (Oc.U t.w1), .int .u64 (Oc.U t.w2), .int .u64 (Oc.U t.w3), .slice p l c, .int .i64 t.num, .int .i64 t.least, .int .i64 t.most, .bool t.bare] : Array Value).all (·.oneCell') = true := nodeC_all t p l c
set_option maxRecDepth 100000 in
set_option maxHeartbeats 4000000 in
theorem parse_long (A : Nat → Addr) (w : World) (s : ByteArray) (fl : Int) (hE : BrEnv w A) (hl : 1024 < s.size) :
    Calls Tryz.prog 12 #[.string s, .int .i64 fl] w (PaEnd A (.err 12 1024) w) := by
  have hb0 : Below w.heap.size w (w.alloc (.cells noNode 28)) := (Below.refl _ _).alloc (Nat.le_refl _) _
  have hE1 := hE.below hb0
  have ce : (w.alloc (.cells noNode 28)).cell? ⟨0, 0, none⟩ = some (.iface 184 (.pointer (some (A 11)))) := (hE1.errs 11 (by omega)).1
  have Z1 := Lib.hid (heap_alloc_new w (.cells noNode 28))
  have HB0 := Lib.hid hb0
  have hd : decide ((1024 : Int) < s.size) = true := by simp; omega
  have hd' : decide (1024 < s.size) = true := by simp; omega
  clear hE hb0 hE1 hl
  go_enter Tryz.func12, Tryz.ntmps12
  go_wp2_with fail
  refine (at_err A 11 (by omega) 1024 _).mono ?_
  rintro e w2 ⟨v, rfl, hv, hb⟩
  have Z2 := Lib.hid (keep_blk hb Z1.out)
  have HB := Lib.hid (HB0.out.trans (hb.mono HB0.out.size))
  have HV := Lib.hid (hv.setRow (show w.heap.size < (w.alloc (.cells noNode 28)).heap.size by simp) noNode)
  clear hb hv ce HB0 Z1
  go_wp2_with (first
    | (refine wpList_store_row rfl 28 (.tmp 4) (.tmp 13) rfl w.heap.size noNode rfl rfl 28 _ Z2.out (by kernel_rfl) rfl (by simp [Value.oneCell']) ?_)
    | fail)
  exact bodyPost_ret (results_row_two rfl _ _ w.heap.size 28 noNode (0, 0) _ _ _ rfl rfl rfl (heap_setRow Z2.out) Tryz.underlying28 rfl (by kernel_rfl)) rfl ⟨⟨_, rfl, by exact HV.out.down (by simp)⟩, by exact below_setRow HB.out (Nat.le_refl _) _⟩
set_option maxRecDepth 100000 in
set_option maxHeartbeats 4000000 in
theorem parse_err (A : Nat → Addr) (w : World) (s : ByteArray) (fl : Int) (hE : BrEnv w A) (hl : s.size ≤ 1024) (c : Nat) (q : Int) (HC : ∀ w' R, RdAt w A w' R s fl 0 0 0 → Calls Tryz.prog 30 #[.pointer (some ⟨R, 0, none⟩)] w' (NdEnd A R s fl 0 (.err c q) w')) :
    Calls Tryz.prog 12 #[.string s, .int .i64 fl] w (PaEnd A (.err c q) w) := by
  have HC := Lib.hid HC
  have hd : decide ((1024 : Int) < s.size) = false := by simp; omega
  have hd' : decide (1024 < s.size) = false := by simp; omega
  have hb0 : Below w.heap.size w ((w.alloc (.cells noNode 28)).alloc (.cells (rdC s fl 0 0 0) 54)) := by go_grown
  have hz := two_new w (.cells noNode 28) (.cells (rdC s fl 0 0 0) 54)
  have HR := Lib.hid (RdAt.mk hE (Nat.le_succ _) hb0 hz.2)
  have Z1 := Lib.hid hz.1
  have HB0 := Lib.hid hb0
  have hs1 : ((w.alloc (.cells noNode 28)).alloc (.cells (rdC s fl 0 0 0) 54)).heap.size = w.heap.size + 2 := by simp
  clear hE hb0 hl hz
  go_enter Tryz.func12, Tryz.ntmps12
  go_wp2_with fail
  refine (HC.out _ (w.heap.size + 1) HR.out).mono ?_
  intro e w2 he
  generalize World.alloc (World.alloc _ _) _ = W at *
  obtain ⟨v, rfl, hv, ht2⟩ := he.err rfl
  obtain ⟨x, rfl⟩ := hv.iface
  have hbA : Below w2.heap.size w2 (w2.alloc (.cells noNode 28)) := (Below.refl _ _).alloc (Nat.le_refl _) _
  have HV := Lib.hid (hv.later hbA)
  have Z2 := Lib.hid (keep_blk hbA ((ht2.block w.heap.size (by omega) (by simp)).trans Z1.out))
  have hb2 : Below w.heap.size w w2 := HB0.out.trans (ht2.below (fun k hk => by rw [List.mem_singleton.1 hk]; omega) HB0.out.size)
  have HB2 := Lib.hid (hb2.trans (hbA.mono hb2.size))
  have HV2 := Lib.hid ((hv.later hbA).setRow (show w.heap.size < W.heap.size by omega) noNode)
  clear hv ht2 he hbA hb2
  go_wp2_with (first
    | (refine wpList_store_row rfl 28 (.tmp 4) (.tmp 25) rfl w.heap.size noNode rfl rfl 28 _ Z2.out (by kernel_rfl) rfl (by simp [Value.oneCell']) ?_)
    | fail)
  exact bodyPost_ret (results_row_two rfl _ _ w.heap.size 28 noNode (0, 0) _ _ _ rfl rfl rfl (heap_setRow Z2.out) Tryz.underlying28 rfl (by kernel_rfl)) rfl ⟨⟨_, rfl, by exact HV2.out.down (by omega)⟩, by exact below_setRow HB2.out (Nat.le_refl _) _⟩
set_option maxRecDepth 100000 in
set_option maxHeartbeats 4000000 in
theorem parse_ok (A : Nat → Addr) (w : World) (s : ByteArray) (fl : Int) (hE : BrEnv w A) (hl : s.size ≤ 1024) (x : Tr) (j g : Nat) (HC : ∀ w' R, RdAt w A w' R s fl 0 0 0 → Calls Tryz.prog 30 #[.pointer (some ⟨R, 0, none⟩)] w' (NdEnd A R s fl 0 (.ok x j g) w')) :
    Calls Tryz.prog 12 #[.string s, .int .i64 fl] w (PaEnd A (.ok x j g) w) := by
  have HC := Lib.hid HC
  have hd : decide ((1024 : Int) < s.size) = false := by simp; omega
  have hd' : decide (1024 < s.size) = false := by simp; omega
  have hb0 : Below w.heap.size w ((w.alloc (.cells noNode 28)).alloc (.cells (rdC s fl 0 0 0) 54)) := by go_grown
  have hz := two_new w (.cells noNode 28) (.cells (rdC s fl 0 0 0) 54)
  have HR := Lib.hid (RdAt.mk hE (Nat.le_succ _) hb0 hz.2)
  have Z1 := Lib.hid hz.1
  have HB0 := Lib.hid hb0
  have hs1 : ((w.alloc (.cells noNode 28)).alloc (.cells (rdC s fl 0 0 0) 54)).heap.size = w.heap.size + 2 := by simp
  clear hE hb0 hl hz
  go_enter Tryz.func12, Tryz.ntmps12
  go_wp2_with fail
  refine (HC.out _ (w.heap.size + 1) HR.out).mono ?_
  intro e w2 he
  generalize World.alloc (World.alloc _ _) _ = W at *
  obtain ⟨v, F, rfl, ho, hF, hr2, ht2⟩ := he.ok rfl
  obtain ⟨p, c, rfl, hl⟩ := ho.slice
  have hbA : Below w2.heap.size w2 (w2.alloc (.cells (x.cells (.slice p x.subs.length c)) 28)) := (Below.refl _ _).alloc (Nat.le_refl _) _
  have HO3 := Lib.hid (ho.later hbA)
  have HF3 := Lib.hid hF
  have Z3 := Lib.hid (keep_blk hbA ((ht2.block w.heap.size (by omega) (by simp)).trans Z1.out))
  have HP3 := Lib.hid (keep_blk hbA hr2)
  have Y3 := Lib.hid (heap_alloc_new w2 (.cells (x.cells (.slice p x.subs.length c)) 28))
  have hb2 : Below w.heap.size w w2 := HB0.out.trans (ht2.below (fun k hk => by rw [List.mem_singleton.1 hk]; omega) HB0.out.size)
  have HB3 := Lib.hid (hb2.trans (hbA.mono hb2.size))
  have hs2 : w.heap.size + 2 ≤ w2.heap.size := by have := ht2.size; omega
  have hs3 : w.heap.size < (w2.alloc (.cells (x.cells (.slice p x.subs.length c)) 28)).heap.size := by have := hbA.size; omega
  clear ho hF hr2 ht2 he hbA Z1 HB0 HR hb2
  unfold Tr.cells at *
  go_upto_region 7 with (fail)
  generalize World.alloc w2 _ = W3 at *
  refine Ri.wp_region_frame (by kernel_rfl) (by kernel_rfl) (by kernel_rfl) (by kernel_rfl)
    (fun L v w' => Below w.heap.size w w' ∧ W3.heap.size ≤ w'.heap.size ∧ (L 3 = true → w'.heap[w.heap.size]? = some (.cells #[.int .i64 (x).kind, .int .u64 (Oc.U (x).w0), .int .u64 (Oc.U (x).w1), .int .u64 (Oc.U (x).w2), .int .u64 (Oc.U (x).w3), .slice p x.subs.length c, .int .i64 (x).num, .int .i64 (x).least, .int .i64 (x).most, .bool (x).bare] 28)) ∧ (L 3 = false → w'.heap[w.heap.size]? = some (.cells noNode 28)) ∧ w'.heap[(w.heap.size + 1)]? = some (.cells (rdC s fl j g 0) 54) ∧ w'.heap[w2.heap.size]? = some (.cells #[.int .i64 (x).kind, .int .u64 (Oc.U (x).w0), .int .u64 (Oc.U (x).w1), .int .u64 (Oc.U (x).w2), .int .u64 (Oc.U (x).w3), .slice p x.subs.length c, .int .i64 (x).num, .int .i64 (x).least, .int .i64 (x).most, .bool (x).bare] 28) ∧ (∀ k, k < W3.heap.size → k ≠ w.heap.size → w'.heap[k]? = W3.heap[k]?) ∧ (L 0 = true → v 0 = .agg #[.int .i64 (x).kind, .int .u64 (Oc.U (x).w0), .int .u64 (Oc.U (x).w1), .int .u64 (Oc.U (x).w2), .int .u64 (Oc.U (x).w3), .slice p x.subs.length c, .int .i64 (x).num, .int .i64 (x).least, .int .i64 (x).most, .bool (x).bare]) ∧ (L 1 = true → v 1 = .pointer (some ⟨w.heap.size + 1, 3, none⟩)) ∧ (L 2 = true → v 2 = .int .i64 g) ∧ (L 4 = true → v 4 = .int .i64 g) ∧ (L 5 = true → v 5 = .nilIface))
    ?_ ?_ ?_
  · exact ⟨HB3.out.drew, Nat.le_refl _, (by simp), (fun _ => Z3.out), HP3.out, Y3.out, fun _ _ _ => rfl, by simp, by simp, by simp, by simp, by simp⟩
  · intro i hi9 L v w9 xa hI hL hd hv ho
    have hi' : i = 0 ∨ i = 1 ∨ i = 2 ∨ i = 3 ∨ i = 4 ∨ i = 5 := by simp at hi9; omega
    obtain ⟨hb, hz, qn, qo, k0, k1, kf, q0, q1, q2, q4, q5⟩ := hI
    rcases hi' with rfl | rfl | rfl | rfl | rfl | rfl
    · have e8 : xa.tmps.getD 8 undef = .pointer (some ⟨w2.heap.size, 0, none⟩) := ho 8 (by kernel_rfl)
      refine Ri.step_plain rfl rfl (fun K' hK => ?_)
      refine wp_load_row _ _ rfl _ e8 _ _ _ _ k1 Tryz.underlying28 rfl (by kernel_rfl) ?_
      exact hK _ _ ⟨_, _, rfl, rfl, hb, hz, qn, qo, k0, k1, kf, fun _ => rfl, q1, q2, q4, q5⟩
    · have e7 : xa.tmps.getD 7 undef = .pointer (some ⟨w.heap.size + 1, 0, none⟩) := ho 7 (by kernel_rfl)
      refine Ri.step_plain rfl rfl (fun K' hK => ?_)
      go_simp
      exact hK _ _ ⟨_, _, rfl, rfl, hb, hz, qn, qo, k0, k1, kf, q0, fun _ => rfl, q2, q4, q5⟩
    · have l0 : L 1 = true := by have := hd _ rfl; simp [Region.binds] at this; simp [this]
      have f1 := (hv 1 28 rfl l0).trans (q1 l0)
      refine Ri.step_plain rfl rfl (fun K' hK => ?_)
      obtain ⟨_, _, _, k3, _⟩ := rd5 k0
      go_simp
      exact hK _ _ ⟨_, _, rfl, rfl, hb, hz, qn, qo, k0, k1, kf, q0, q1, fun _ => rfl, q4, q5⟩
    · have l0 : L 0 = true := by have := hd _ rfl; simp [Region.binds] at this; simp [this]
      have f0 := (hv 0 27 rfl l0).trans (q0 l0)
      have e4 : xa.tmps.getD 4 undef = .pointer (some ⟨w.heap.size, 0, none⟩) := ho 4 (by kernel_rfl)
      refine Ri.step_plain rfl rfl (fun K' hK => ?_)
      refine wp_store_row _ _ _ rfl w.heap.size #[.int .i64 (x).kind, .int .u64 (Oc.U (x).w0), .int .u64 (Oc.U (x).w1), .int .u64 (Oc.U (x).w2), .int .u64 (Oc.U (x).w3), .slice p x.subs.length c, .int .i64 (x).num, .int .i64 (x).least, .int .i64 (x).most, .bool (x).bare] e4 f0 28 _ (qo hL) (by kernel_rfl) (by kernel_rfl) (all_oneCell_node x p x.subs.length c) ?_
      exact hK _ _ ⟨_, undef, rfl, rfl, below_setRow hb (Nat.le_refl _) _, by simpa using hz, (fun _ => heap_setRow (qo hL)), (fun h => by cases h), (heap_setRow_other _ _ _ (by omega)).trans k0, (heap_setRow_other _ _ _ (by omega)).trans k1, (fun k hk hn => (heap_setRow_other _ _ _ hn).trans (kf k hk hn)), q0, q1, q2, q4, q5⟩
    · have l0 : L 2 = true := by have := hd _ rfl; simp [Region.binds] at this; simp [this]
      have f2 := (hv 2 29 rfl l0).trans (q2 l0)
      refine Ri.step_plain rfl rfl (fun K' hK => ?_)
      go_simp
      exact hK _ _ ⟨_, _, rfl, rfl, hb, hz, qn, qo, k0, k1, kf, q0, q1, q2, fun _ => rfl, q5⟩
    · refine Ri.step_plain rfl rfl (fun K' hK => ?_)
      go_simp
      exact hK _ _ ⟨_, _, rfl, rfl, hb, hz, qn, qo, k0, k1, kf, q0, q1, q2, q4, fun _ => rfl⟩
  · rintro v w9 ⟨hb, hz, qn, -, k0, k1, kf, -, -, -, q4, q5⟩
    have zN := qn rfl; clear qn
    have q4' : v 4 = .int .i64 g := q4 rfl
    have q5' : v 5 = .nilIface := q5 rfl
    simp only [Ri.frame, List.zipIdx, List.foldl_cons, List.foldl_nil, if_true, List.setIfInBounds_toArray, List.set_cons_zero, List.set_cons_succ, Nat.reduceAdd, q4', q5']
    clear q4 q4' q5 q5'
    generalize v 0 = y0; generalize v 1 = y1; generalize v 2 = y2
    have HOw := Lib.hid (HO3.out.keep (w' := w9) fun b hb => kf b (HO3.out.lt b hb) (by have := HF3.out b hb; omega))
    have HK2 : Hid (∀ b, b ∈ F → w.heap.size ≤ b) := Lib.hid fun b hb => by have := HF3.out b hb; omega
    have HBw := Lib.hid hb
    have ZN := Lib.hid zN
    clear hb zN kf
    go_wp2
    exact bodyPost_ret (results_row_two rfl _ _ w.heap.size 28 #[.int .i64 (x).kind, .int .u64 (Oc.U (x).w0), .int .u64 (Oc.U (x).w1), .int .u64 (Oc.U (x).w2), .int .u64 (Oc.U (x).w3), .slice p x.subs.length c, .int .i64 (x).num, .int .i64 (x).least, .int .i64 (x).most, .bool (x).bare] (0, 0) _ _ _ rfl rfl rfl ZN.out Tryz.underlying28 rfl (by kernel_rfl)) rfl ⟨⟨.slice p x.subs.length c, F, by exact rfl, HOw.out, HK2.out⟩, HBw.out⟩
/-- What Parse answers: what chapter 6 promises. -/
theorem parse_does (A : Nat → Addr) (w : World) (s : ByteArray) (fl : Int) (hE : BrEnv w A) :
    Calls Tryz.prog 12 #[.string s, .int .i64 fl] w (PaEnd A (Ep.parse (bt s) s.size (icB fl) (nlB fl)) w) := by
  unfold Ep.parse
  by_cases hl : 1024 < s.size
  · rw [if_pos hl]; exact parse_long A w s fl hE hl
  · rw [if_neg hl]
    have hw : ∀ O, Ep.whole (bt s) s.size (icB fl) (nlB fl) = O → ∀ w' R, RdAt w A w' R s fl 0 0 0 → Calls Tryz.prog 30 #[.pointer (some ⟨R, 0, none⟩)] w' (NdEnd A R s fl 0 O w') := fun O hO w' R hR => by
      rw [← hO]; exact ewhole_any w A w' R s (by omega) fl hR
    cases hO : Ep.whole (bt s) s.size (icB fl) (nlB fl) with
    | err c q => exact parse_err A w s fl hE (by omega) c q (hw _ hO)
    | ok x j g => exact parse_ok A w s fl hE (by omega) x j g (hw _ hO)
end Go.Proofs.YtlbhbjmobcikfaaGreatDoor
/- The fixed facts that every statement of ere begins with. -/
namespace Go.Proofs.YtlbhbjmobcikfaaGreatDoor
open Go.RowKit
theorem ten3 {w : World} {b : Nat} {x0 x1 x2 x3 x4 x5 x6 x7 x8 x9 : Value} {t : TypeId} (h : w.heap[b]? = some (.cells #[x0, x1, x2, x3, x4, x5, x6, x7, x8, x9] t)) : w.cell? ⟨b, 0, none⟩ = some x0 ∧ w.cell? ⟨b, 7, none⟩ = some x7 ∧ w.cell? ⟨b, 8, none⟩ = some x8 := by
  simp [World.cell?, h]
def epT1 : ByteArray := ⟨#[40, 97, 42, 41, 43]⟩
def epT2 : ByteArray := ⟨#[97, 42, 42]⟩
def epR1 : Tr := .rep 1 (-1) (.grp (1 : Nat) (.rep 0 (-1) (Ep.one false 97)))
theorem ic0 : icB 0 = false := by decide
theorem nl0 : nlB 0 = false := by decide
theorem ep1 : Ep.parse (bt epT1) epT1.size (icB 0) (nlB 0) = .ok epR1 5 1 := by
  rw [ic0, nl0]
  rfl
theorem ep2 : Ep.parse (bt epT2) epT2.size (icB 0) (nlB 0) = .err 9 2 := by
  rw [ic0, nl0]
  rfl
set_option maxRecDepth 100000 in
set_option maxHeartbeats 2000000 in
theorem eplives_any (A : Nat → Addr) (w : World) (hE : BrEnv w A) (hT : ErrType w) : Calls Tryz.prog 11 #[] w fun e w' => e = .returned (.bool true) ∧ Below w.heap.size w w' := by
  have HE := Lib.hid hE; have HT := Lib.hid hT
  have HD := Lib.hid parse_does
  clear hE hT
  go_enter Tryz.func11, Tryz.ntmps11
  go_wp2_with fail
  refine (HD.out A _ epT1 0 HE.out).mono ?_
  intro e w1 he
  obtain ⟨v1, F1, rfl, ho1, -, hb1⟩ := he.ok ep1
  obtain ⟨p1, c1, rfl, hl1⟩ := ho1.slice
  have hbA := hb1.alloc hb1.size (.cells (epR1.cells (.slice p1 epR1.subs.length c1)) 28)
  have Z1 := Lib.hid (heap_alloc_new w1 (.cells (epR1.cells (.slice p1 epR1.subs.length c1)) 28))
  have HB1 := Lib.hid hbA
  clear he ho1 hb1 hbA hl1
  unfold Tr.cells at *
  have k1 : epR1.kind = 8 := rfl
  have k2 : epR1.least = 1 := rfl
  have k3 : epR1.most = -1 := rfl
  rw [k1, k2, k3] at *
  clear k1 k2 k3
  generalize epR1.w0 = x0 at *
  generalize epR1.w1 = x1 at *
  generalize epR1.w2 = x2 at *
  generalize epR1.w3 = x3 at *
  generalize epR1.subs.length = xl at *
  generalize epR1.num = xn at *
  generalize epR1.bare = xb at *
  go_wp2_with fail
  refine (HD.out A _ epT2 0 (HE.out.below HB1.out)).mono ?_
  intro e w2 he
  obtain ⟨v, rfl, hv, hb2⟩ := he.err ep2
  obtain ⟨q2, rfl⟩ := hv.iface
  have hbB : Below _ _ (w2.alloc (.cells noNode 28)) := hb2.alloc hb2.size _
  have Z2 := Lib.hid (keep_blk hbB Z1.out)
  have HB2 := Lib.hid (HB1.out.trans (hbB.mono HB1.out.size))
  have HV := Lib.hid (hv.at.later ((Below.refl w2.heap.size w2).alloc (Nat.le_refl _) (.cells noNode 28)))
  have HE2 := Lib.hid (HE.out.below HB2.out); have HT2 := Lib.hid (HT.out.later HB2.out)
  obtain ⟨d0, d7, d8⟩ := ten3 Z2.out
  clear he hb2 hbB hv
  go_wp2_with fail
  refine (HV.out.num HE2.out).mono ?_; rintro e w6 ⟨rfl, hb6⟩
  have HB6 := Lib.hid (HB2.out.trans (hb6.mono HB2.out.size)); have HT6 := Lib.hid (HT2.out.later hb6); have HV6 := Lib.hid (HV.out.later hb6)
  clear hb6 d0 d7 d8
  go_wp2_with fail
  refine (HV6.out.place HT6.out).mono ?_; rintro e w7 ⟨rfl, hb7⟩
  have HB7 := Lib.hid (HB6.out.trans (hb7.mono HB6.out.size))
  clear hb7
  go_wp2
  go_ret
  exact ⟨rfl, HB7.out⟩
end Go.Proofs.YtlbhbjmobcikfaaGreatDoor
/- EreEscapes: whatever the byte and the text, the law returns true. -/
namespace Go.Proofs.YtlbhbjmobcikfaaGreatDoor
open Go.RowKit
/-- One byte as a text. -/
theorem byte_text (b : UInt8) (g : Nat) (w : World) (h : w.heap[g]? = some (.cells #[.int .u8 (b.toNat : Int)] 5)) : (convert 45 9 (.slice (some ⟨g, 0, none⟩) 1 1)).run Tryz.prog w = .ok (.string ⟨#[b]⟩) w := by
  have := run_convert_bytes_back (P := Tryz.prog) w 45 9 5 ⟨g, 0, none⟩ 1 [b] Tryz.underlying45 Tryz.underlying5 Tryz.underlying9 (fun j hj => by
    obtain rfl : j = 0 := by simp at hj; omega
    rw [Addr.add_mid]
    simp [World.cell?, h])
  exact this
theorem byte_new (b : UInt8) (w : World) : (convert 45 9 (.slice (some ⟨w.heap.size, 0, none⟩) 1 1)).run Tryz.prog (w.alloc (.cells #[.int .u8 (b.toNat : Int)] 5)) = .ok (.string ⟨#[b]⟩) (w.alloc (.cells #[.int .u8 (b.toNat : Int)] 5)) :=
  byte_text b _ _ (heap_alloc_new _ _)
theorem anyB_one (b : UInt8) : Oc.anyB (byteAt ⟨#[b]⟩) (⟨#[b]⟩ : ByteArray).size = fun x => x == b.toNat := by
  funext x
  have hz : (⟨#[b]⟩ : ByteArray).size = 1 := rfl
  have h0 : byteAt ⟨#[b]⟩ 0 = b.toNat := rfl
  rw [hz, Bool.eq_iff_iff]
  simp [Oc.anyB, h0]
theorem refof_byte (b : UInt8) (w : World) : Calls Tryz.prog 22 #[.string ⟨#[b]⟩] w fun e w' => e = .returned (.agg #[.int .u64 (Oc.U (Oc.mk (fun x => x == b.toNat) 0)), .int .u64 (Oc.U (Oc.mk (fun x => x == b.toNat) 1)), .int .u64 (Oc.U (Oc.mk (fun x => x == b.toNat) 2)), .int .u64 (Oc.U (Oc.mk (fun x => x == b.toNat) 3))]) ∧ Below w.heap.size w w' := by
  have h := refof_any ⟨#[b]⟩ (by show (1 : Nat) ≤ _; unfold maxLen; decide) w
  rw [anyB_one] at h
  exact h
set_option maxRecDepth 100000 in
set_option maxHeartbeats 8000000 in
theorem eresc_any (A : Nat → Addr) (b : UInt8) (x : ByteArray) (hx : x.size ≤ 140737488351232) (w : World) (hE : BrEnv w A) (hT : ErrType w) :
    Calls Tryz.prog 6 #[.int .u8 (b.toNat : Int), .string x] w fun e w' => e = .returned (.bool true) ∧ Below w.heap.size w w' := by
  have HL := Lib.hid (eplives_any A w hE hT)
  have HE := Lib.hid hE; have HT := Lib.hid hT
  have HD := Lib.hid parse_does
  have hcv := byte_new b
  clear hE hT
  go_enter Tryz.func6, Tryz.ntmps6
  go_wp2_with fail
  refine HL.out.mono ?_; rintro e w1 ⟨rfl, hb1⟩
  have HB1 := Lib.hid hb1
  clear hb1
  go_wp2_with fail
  cases hp : Cl.cls 8 b.toNat with
  | false =>
    have HPB := Lib.hid hp
    have hpar : Ep.parse (bt (⟨#[92]⟩ ++ ⟨#[b]⟩)) (⟨#[92]⟩ ++ ⟨#[b]⟩ : ByteArray).size (icB 0) (nlB 0) = .err 8 0 := by
      obtain ⟨⟨h0, h1, h2⟩, hz⟩ := bt_esc b
      rw [hz, ic0, nl0]; exact Ep.two_no h0 (by rw [h1]; exact hp)
    refine (HD.out A _ _ 0 ((HE.out.below HB1.out).below ((Below.refl _ _).alloc (Nat.le_refl _) _))).mono ?_
    intro e w2 he
    obtain ⟨v, rfl, hv, hb2⟩ := he.err hpar
    obtain ⟨q2, rfl⟩ := hv.iface
    have hbB := (Below.refl w2.heap.size w2).alloc (Nat.le_refl _) (.cells noNode 28)
    have hb3 : Below w.heap.size w w2 := (HB1.out.alloc HB1.out.size _).trans (hb2.mono (by have := HB1.out.size; simp; omega))
    have HB3 := Lib.hid (hb3.alloc hb3.size (.cells noNode 28))
    have HV := Lib.hid (hv.at.later hbB)
    have HE3 := Lib.hid (HE.out.below HB3.out); have HT3 := Lib.hid (HT.out.later HB3.out)
    clear he hv hb2 hbB hb3 hp hpar hcv
    go_upto_region 4 with (fail)
    have hk : (0 ≤ b.toNat ∧ b.toNat ≤ 32) ∨ (48 ≤ b.toNat ∧ b.toNat ≤ 57) ∨ (65 ≤ b.toNat ∧ b.toNat ≤ 90) ∨ (97 ≤ b.toNat ∧ b.toNat ≤ 122) ∨ (127 ≤ b.toNat ∧ b.toNat ≤ 255) := by
      have h255 := UInt8.toNat_lt b
      have h9 := HPB.out
      simp only [Cl.cls, Cl.inI] at h9
      simp only [Bool.and_eq_false_iff, Bool.not_eq_false', Bool.and_eq_true, decide_eq_true_eq, decide_eq_false_iff_not] at h9
      omega
    go_cut [8] from 21 to 53 (fun u8 wx => u8 = .bool false ∧ wx = w2.alloc (.cells noNode 28))
    case first =>
      rcases hk with ⟨k1, k2⟩ | ⟨k1, k2⟩ | ⟨k1, k2⟩ | ⟨k1, k2⟩ | ⟨k1, k2⟩
      · have g32 : decide (32 < (b.toNat : Int)) = false := by simp; omega
        have g32' : decide (32 < b.toNat) = false := by simp; omega
        have l127 : decide ((b.toNat : Int) < 127) = true := by simp; omega
        have l127' : decide (b.toNat < 127) = true := by simp; omega
        have g48 : decide (48 ≤ (b.toNat : Int)) = false := by simp; omega
        have g48' : decide (48 ≤ b.toNat) = false := by simp; omega
        have l57 : decide ((b.toNat : Int) ≤ 57) = true := by simp; omega
        have l57' : decide (b.toNat ≤ 57) = true := by simp; omega
        have g65 : decide (65 ≤ (b.toNat : Int)) = false := by simp; omega
        have g65' : decide (65 ≤ b.toNat) = false := by simp; omega
        have l90 : decide ((b.toNat : Int) ≤ 90) = true := by simp; omega
        have l90' : decide (b.toNat ≤ 90) = true := by simp; omega
        have g97 : decide (97 ≤ (b.toNat : Int)) = false := by simp; omega
        have g97' : decide (97 ≤ b.toNat) = false := by simp; omega
        have l122 : decide ((b.toNat : Int) ≤ 122) = true := by simp; omega
        have l122' : decide (b.toNat ≤ 122) = true := by simp; omega
        clear k1 k2
        go_wp2
        go_meet
        exact ⟨rfl, rfl⟩
      · have g32 : decide (32 < (b.toNat : Int)) = true := by simp; omega
        have g32' : decide (32 < b.toNat) = true := by simp; omega
        have l127 : decide ((b.toNat : Int) < 127) = true := by simp; omega
        have l127' : decide (b.toNat < 127) = true := by simp; omega
        have g48 : decide (48 ≤ (b.toNat : Int)) = true := by simp; omega
        have g48' : decide (48 ≤ b.toNat) = true := by simp; omega
        have l57 : decide ((b.toNat : Int) ≤ 57) = true := by simp; omega
        have l57' : decide (b.toNat ≤ 57) = true := by simp; omega
        have g65 : decide (65 ≤ (b.toNat : Int)) = false := by simp; omega
        have g65' : decide (65 ≤ b.toNat) = false := by simp; omega
        have l90 : decide ((b.toNat : Int) ≤ 90) = true := by simp; omega
        have l90' : decide (b.toNat ≤ 90) = true := by simp; omega
        have g97 : decide (97 ≤ (b.toNat : Int)) = false := by simp; omega
        have g97' : decide (97 ≤ b.toNat) = false := by simp; omega
        have l122 : decide ((b.toNat : Int) ≤ 122) = true := by simp; omega
        have l122' : decide (b.toNat ≤ 122) = true := by simp; omega
        clear k1 k2
        go_wp2
        go_meet
        exact ⟨rfl, rfl⟩
      · have g32 : decide (32 < (b.toNat : Int)) = true := by simp; omega
        have g32' : decide (32 < b.toNat) = true := by simp; omega
        have l127 : decide ((b.toNat : Int) < 127) = true := by simp; omega
        have l127' : decide (b.toNat < 127) = true := by simp; omega
        have g48 : decide (48 ≤ (b.toNat : Int)) = true := by simp; omega
        have g48' : decide (48 ≤ b.toNat) = true := by simp; omega
        have l57 : decide ((b.toNat : Int) ≤ 57) = false := by simp; omega
        have l57' : decide (b.toNat ≤ 57) = false := by simp; omega
        have g65 : decide (65 ≤ (b.toNat : Int)) = true := by simp; omega
        have g65' : decide (65 ≤ b.toNat) = true := by simp; omega
        have l90 : decide ((b.toNat : Int) ≤ 90) = true := by simp; omega
        have l90' : decide (b.toNat ≤ 90) = true := by simp; omega
        have g97 : decide (97 ≤ (b.toNat : Int)) = false := by simp; omega
        have g97' : decide (97 ≤ b.toNat) = false := by simp; omega
        have l122 : decide ((b.toNat : Int) ≤ 122) = true := by simp; omega
        have l122' : decide (b.toNat ≤ 122) = true := by simp; omega
        clear k1 k2
        go_wp2
        go_meet
        exact ⟨rfl, rfl⟩
      · have g32 : decide (32 < (b.toNat : Int)) = true := by simp; omega
        have g32' : decide (32 < b.toNat) = true := by simp; omega
        have l127 : decide ((b.toNat : Int) < 127) = true := by simp; omega
        have l127' : decide (b.toNat < 127) = true := by simp; omega
        have g48 : decide (48 ≤ (b.toNat : Int)) = true := by simp; omega
        have g48' : decide (48 ≤ b.toNat) = true := by simp; omega
        have l57 : decide ((b.toNat : Int) ≤ 57) = false := by simp; omega
        have l57' : decide (b.toNat ≤ 57) = false := by simp; omega
        have g65 : decide (65 ≤ (b.toNat : Int)) = true := by simp; omega
        have g65' : decide (65 ≤ b.toNat) = true := by simp; omega
        have l90 : decide ((b.toNat : Int) ≤ 90) = false := by simp; omega
        have l90' : decide (b.toNat ≤ 90) = false := by simp; omega
        have g97 : decide (97 ≤ (b.toNat : Int)) = true := by simp; omega
        have g97' : decide (97 ≤ b.toNat) = true := by simp; omega
        have l122 : decide ((b.toNat : Int) ≤ 122) = true := by simp; omega
        have l122' : decide (b.toNat ≤ 122) = true := by simp; omega
        clear k1 k2
        go_wp2
        go_meet
        exact ⟨rfl, rfl⟩
      · have g32 : decide (32 < (b.toNat : Int)) = true := by simp; omega
        have g32' : decide (32 < b.toNat) = true := by simp; omega
        have l127 : decide ((b.toNat : Int) < 127) = false := by simp; omega
        have l127' : decide (b.toNat < 127) = false := by simp; omega
        have g48 : decide (48 ≤ (b.toNat : Int)) = true := by simp; omega
        have g48' : decide (48 ≤ b.toNat) = true := by simp; omega
        have l57 : decide ((b.toNat : Int) ≤ 57) = false := by simp; omega
        have l57' : decide (b.toNat ≤ 57) = false := by simp; omega
        have g65 : decide (65 ≤ (b.toNat : Int)) = true := by simp; omega
        have g65' : decide (65 ≤ b.toNat) = true := by simp; omega
        have l90 : decide ((b.toNat : Int) ≤ 90) = false := by simp; omega
        have l90' : decide (b.toNat ≤ 90) = false := by simp; omega
        have g97 : decide (97 ≤ (b.toNat : Int)) = true := by simp; omega
        have g97' : decide (97 ≤ b.toNat) = true := by simp; omega
        have l122 : decide ((b.toNat : Int) ≤ 122) = false := by simp; omega
        have l122' : decide (b.toNat ≤ 122) = false := by simp; omega
        clear k1 k2
        go_wp2
        go_meet
        exact ⟨rfl, rfl⟩
    case rest =>
      obtain ⟨rfl, rfl⟩ := hcut
      clear hk
      go_wp2_with fail
      refine (HV.out.num HE3.out).mono ?_; rintro e w6 ⟨rfl, hb6⟩
      have HB6 := Lib.hid (HB3.out.trans (hb6.mono HB3.out.size)); have HT6 := Lib.hid (HT3.out.later hb6); have HV6 := Lib.hid (HV.out.later hb6)
      clear hb6
      go_wp2_with fail
      refine (HV6.out.place HT6.out).mono ?_; rintro e w7 ⟨rfl, hb7⟩
      have HB7 := Lib.hid (HB6.out.trans (hb7.mono HB6.out.size))
      clear hb7
      go_wp2
      go_ret
      exact ⟨rfl, HB7.out⟩
  | true =>
    have HPB := Lib.hid hp
    have hpar : Ep.parse (bt (⟨#[92]⟩ ++ ⟨#[b]⟩)) (⟨#[92]⟩ ++ ⟨#[b]⟩ : ByteArray).size (icB 0) (nlB 0) = .ok (Ep.one false b.toNat) 2 0 := by
      obtain ⟨⟨h0, h1, h2⟩, hz⟩ := bt_esc b
      rw [hz, ic0, nl0, ← h1]; exact Ep.two_yes h0 h2 (by rw [h1]; exact hp)
    refine (HD.out A _ _ 0 ((HE.out.below HB1.out).below ((Below.refl _ _).alloc (Nat.le_refl _) _))).mono ?_
    intro e w2 he
    obtain ⟨v2, F2, rfl, ho, -, hb2⟩ := he.ok hpar
    obtain ⟨p2, c2, rfl, -⟩ := ho.slice
    have hb3 : Below w.heap.size w w2 := (HB1.out.alloc HB1.out.size _).trans (hb2.mono (by have := HB1.out.size; simp; omega))
    have HB3 := Lib.hid (hb3.alloc hb3.size (.cells ((Ep.one false b.toNat).cells (.slice p2 0 c2)) 28))
    have Z3 := Lib.hid (heap_alloc_new w2 (.cells ((Ep.one false b.toNat).cells (.slice p2 0 c2)) 28))
    have HE3 := Lib.hid (HE.out.below HB3.out); have HT3 := Lib.hid (HT.out.later HB3.out)
    clear he hb2 hb3 hp hpar ho
    have hsl : (Ep.one false b.toNat).subs.length = 0 := rfl
    rw [hsl]
    clear hsl
    unfold Tr.cells at *
    go_upto_region 4 with (fail)
    have hk : (33 ≤ b.toNat ∧ b.toNat ≤ 47) ∨ (58 ≤ b.toNat ∧ b.toNat ≤ 64) ∨ (91 ≤ b.toNat ∧ b.toNat ≤ 96) ∨ (123 ≤ b.toNat ∧ b.toNat ≤ 126) := by
      have h255 := UInt8.toNat_lt b
      have h9 := HPB.out
      simp only [Cl.cls, Cl.inI] at h9
      simp only [Bool.and_eq_true, Bool.not_eq_true', Bool.and_eq_false_iff, decide_eq_true_eq, decide_eq_false_iff_not] at h9
      omega
    go_cut [8] from 21 to 53 (fun u8 wx => u8 = .bool true ∧ wx = w2.alloc (.cells (#[.int .i64 (Ep.one false b.toNat).kind, .int .u64 (Oc.U (Ep.one false b.toNat).w0), .int .u64 (Oc.U (Ep.one false b.toNat).w1), .int .u64 (Oc.U (Ep.one false b.toNat).w2), .int .u64 (Oc.U (Ep.one false b.toNat).w3), .slice p2 0 c2, .int .i64 (Ep.one false b.toNat).num, .int .i64 (Ep.one false b.toNat).least, .int .i64 (Ep.one false b.toNat).most, .bool (Ep.one false b.toNat).bare]) 28))
    case first =>
      rcases hk with ⟨k1, k2⟩ | ⟨k1, k2⟩ | ⟨k1, k2⟩ | ⟨k1, k2⟩
      · have g32 : decide (32 < (b.toNat : Int)) = true := by simp; omega
        have g32' : decide (32 < b.toNat) = true := by simp; omega
        have l127 : decide ((b.toNat : Int) < 127) = true := by simp; omega
        have l127' : decide (b.toNat < 127) = true := by simp; omega
        have g48 : decide (48 ≤ (b.toNat : Int)) = false := by simp; omega
        have g48' : decide (48 ≤ b.toNat) = false := by simp; omega
        have l57 : decide ((b.toNat : Int) ≤ 57) = true := by simp; omega
        have l57' : decide (b.toNat ≤ 57) = true := by simp; omega
        have g65 : decide (65 ≤ (b.toNat : Int)) = false := by simp; omega
        have g65' : decide (65 ≤ b.toNat) = false := by simp; omega
        have l90 : decide ((b.toNat : Int) ≤ 90) = true := by simp; omega
        have l90' : decide (b.toNat ≤ 90) = true := by simp; omega
        have g97 : decide (97 ≤ (b.toNat : Int)) = false := by simp; omega
        have g97' : decide (97 ≤ b.toNat) = false := by simp; omega
        have l122 : decide ((b.toNat : Int) ≤ 122) = true := by simp; omega
        have l122' : decide (b.toNat ≤ 122) = true := by simp; omega
        clear k1 k2
        go_wp2
        go_meet
        exact ⟨rfl, rfl⟩
      · have g32 : decide (32 < (b.toNat : Int)) = true := by simp; omega
        have g32' : decide (32 < b.toNat) = true := by simp; omega
        have l127 : decide ((b.toNat : Int) < 127) = true := by simp; omega
        have l127' : decide (b.toNat < 127) = true := by simp; omega
        have g48 : decide (48 ≤ (b.toNat : Int)) = true := by simp; omega
        have g48' : decide (48 ≤ b.toNat) = true := by simp; omega
        have l57 : decide ((b.toNat : Int) ≤ 57) = false := by simp; omega
        have l57' : decide (b.toNat ≤ 57) = false := by simp; omega
        have g65 : decide (65 ≤ (b.toNat : Int)) = false := by simp; omega
        have g65' : decide (65 ≤ b.toNat) = false := by simp; omega
        have l90 : decide ((b.toNat : Int) ≤ 90) = true := by simp; omega
        have l90' : decide (b.toNat ≤ 90) = true := by simp; omega
        have g97 : decide (97 ≤ (b.toNat : Int)) = false := by simp; omega
        have g97' : decide (97 ≤ b.toNat) = false := by simp; omega
        have l122 : decide ((b.toNat : Int) ≤ 122) = true := by simp; omega
        have l122' : decide (b.toNat ≤ 122) = true := by simp; omega
        clear k1 k2
        go_wp2
        go_meet
        exact ⟨rfl, rfl⟩
      · have g32 : decide (32 < (b.toNat : Int)) = true := by simp; omega
        have g32' : decide (32 < b.toNat) = true := by simp; omega
        have l127 : decide ((b.toNat : Int) < 127) = true := by simp; omega
        have l127' : decide (b.toNat < 127) = true := by simp; omega
        have g48 : decide (48 ≤ (b.toNat : Int)) = true := by simp; omega
        have g48' : decide (48 ≤ b.toNat) = true := by simp; omega
        have l57 : decide ((b.toNat : Int) ≤ 57) = false := by simp; omega
        have l57' : decide (b.toNat ≤ 57) = false := by simp; omega
        have g65 : decide (65 ≤ (b.toNat : Int)) = true := by simp; omega
        have g65' : decide (65 ≤ b.toNat) = true := by simp; omega
        have l90 : decide ((b.toNat : Int) ≤ 90) = false := by simp; omega
        have l90' : decide (b.toNat ≤ 90) = false := by simp; omega
        have g97 : decide (97 ≤ (b.toNat : Int)) = false := by simp; omega
        have g97' : decide (97 ≤ b.toNat) = false := by simp; omega
        have l122 : decide ((b.toNat : Int) ≤ 122) = true := by simp; omega
        have l122' : decide (b.toNat ≤ 122) = true := by simp; omega
        clear k1 k2
        go_wp2
        go_meet
        exact ⟨rfl, rfl⟩
      · have g32 : decide (32 < (b.toNat : Int)) = true := by simp; omega
        have g32' : decide (32 < b.toNat) = true := by simp; omega
        have l127 : decide ((b.toNat : Int) < 127) = true := by simp; omega
        have l127' : decide (b.toNat < 127) = true := by simp; omega
        have g48 : decide (48 ≤ (b.toNat : Int)) = true := by simp; omega
        have g48' : decide (48 ≤ b.toNat) = true := by simp; omega
        have l57 : decide ((b.toNat : Int) ≤ 57) = false := by simp; omega
        have l57' : decide (b.toNat ≤ 57) = false := by simp; omega
        have g65 : decide (65 ≤ (b.toNat : Int)) = true := by simp; omega
        have g65' : decide (65 ≤ b.toNat) = true := by simp; omega
        have l90 : decide ((b.toNat : Int) ≤ 90) = false := by simp; omega
        have l90' : decide (b.toNat ≤ 90) = false := by simp; omega
        have g97 : decide (97 ≤ (b.toNat : Int)) = true := by simp; omega
        have g97' : decide (97 ≤ b.toNat) = true := by simp; omega
        have l122 : decide ((b.toNat : Int) ≤ 122) = false := by simp; omega
        have l122' : decide (b.toNat ≤ 122) = false := by simp; omega
        clear k1 k2
        go_wp2
        go_meet
        exact ⟨rfl, rfl⟩
    case rest =>
      obtain ⟨rfl, rfl⟩ := hcut
      clear hk
      go_upto_region 7 with (fail)
      refine Ri.wp_region_frame (by kernel_rfl) (by kernel_rfl) (by kernel_rfl) (by kernel_rfl)
        (fun L v w' => Below (w2.alloc (.cells (#[.int .i64 (Ep.one false b.toNat).kind, .int .u64 (Oc.U (Ep.one false b.toNat).w0), .int .u64 (Oc.U (Ep.one false b.toNat).w1), .int .u64 (Oc.U (Ep.one false b.toNat).w2), .int .u64 (Oc.U (Ep.one false b.toNat).w3), .slice p2 0 c2, .int .i64 (Ep.one false b.toNat).num, .int .i64 (Ep.one false b.toNat).least, .int .i64 (Ep.one false b.toNat).most, .bool (Ep.one false b.toNat).bare]) 28)).heap.size (w2.alloc (.cells (#[.int .i64 (Ep.one false b.toNat).kind, .int .u64 (Oc.U (Ep.one false b.toNat).w0), .int .u64 (Oc.U (Ep.one false b.toNat).w1), .int .u64 (Oc.U (Ep.one false b.toNat).w2), .int .u64 (Oc.U (Ep.one false b.toNat).w3), .slice p2 0 c2, .int .i64 (Ep.one false b.toNat).num, .int .i64 (Ep.one false b.toNat).least, .int .i64 (Ep.one false b.toNat).most, .bool (Ep.one false b.toNat).bare]) 28)) w' ∧ (L 0 = true → v 0 = .nilIface) ∧ (L 1 = true → v 1 = .bool false) ∧ (L 2 = true → v 2 = .bool false) ∧ (L 3 = true → v 3 = .int .i64 0) ∧ (L 4 = true → v 4 = .bool false) ∧ (L 5 = true → v 5 = .bool false) ∧ (L 6 = true → v 6 = .bool false) ∧ (L 7 = true → v 7 = .agg ((Ep.one false b.toNat).cells (.slice p2 0 c2))) ∧ (L 8 = true → v 8 = .int .u8 (b.toNat : Int)) ∧ (L 9 = true → One w' (v 9) b.toNat) ∧ (L 10 = true → v 10 = .string ⟨#[b]⟩) ∧ (L 11 = true → v 11 = (.agg #[.int .u64 (Oc.U (Oc.mk (fun x => x == b.toNat) 0)), .int .u64 (Oc.U (Oc.mk (fun x => x == b.toNat) 1)), .int .u64 (Oc.U (Oc.mk (fun x => x == b.toNat) 2)), .int .u64 (Oc.U (Oc.mk (fun x => x == b.toNat) 3))])) ∧ (L 12 = true → v 12 = .agg ((Ep.one false b.toNat).cells (.slice none 0 0))) ∧ (L 13 = true → v 13 = .bool true) ∧ (L 14 = true → v 14 = .bool false) ∧ (L 15 = true → v 15 = .bool false))
        ?_ ?_ ?_
      · exact ⟨(Below.refl _ _).drew, by simp, by simp, by simp, by simp, by simp, by simp, by simp, by simp, by simp, by simp, by simp, by simp, by simp, by simp, by simp, by simp⟩
      · intro i hi9 L v w9 xa hI hL hd hv ho
        have hi' : i = 0 ∨ i = 1 ∨ i = 2 ∨ i = 3 ∨ i = 4 ∨ i = 5 ∨ i = 6 ∨ i = 7 ∨ i = 8 ∨ i = 9 ∨ i = 10 ∨ i = 11 ∨ i = 12 ∨ i = 13 ∨ i = 14 ∨ i = 15 := by simp at hi9; omega
        obtain ⟨hb, q0, q1, q2, q3, q4, q5, q6, q7, q8, q9, q10, q11, q12, q13, q14, q15⟩ := hI
        rcases hi' with rfl | rfl | rfl | rfl | rfl | rfl | rfl | rfl | rfl | rfl | rfl | rfl | rfl | rfl | rfl | rfl
        · have e7 : xa.tmps.getD 7 undef = .nilIface := ho 7 (by kernel_rfl)
          refine Ri.step_plain rfl rfl (fun K' hK => ?_)
          go_simp
          exact hK _ _ ⟨_, _, rfl, rfl, hb, fun _ => rfl, q1, q2, q3, q4, q5, q6, q7, q8, q9, q10, q11, q12, q13, q14, q15⟩
        · have l0 : L 0 = true := by have := hd _ rfl; simp [Region.binds] at this; simp [this]
          have f0 := (hv 0 64 rfl l0).trans (q0 l0)
          refine Ri.step_plain rfl rfl (fun K' hK => ?_)
          go_simp
          exact hK _ _ ⟨_, _, rfl, rfl, hb, q0, fun _ => rfl, q2, q3, q4, q5, q6, q7, q8, q9, q10, q11, q12, q13, q14, q15⟩
        · have l0 : L 1 = true := by have := hd _ rfl; simp [Region.binds] at this; simp [this]
          have f1 := (hv 1 65 rfl l0).trans (q1 l0)
          refine Ri.step_plain rfl rfl (fun K' hK => ?_)
          go_simp
          exact hK _ _ ⟨_, _, rfl, rfl, hb, q0, q1, fun _ => rfl, q3, q4, q5, q6, q7, q8, q9, q10, q11, q12, q13, q14, q15⟩
        · have l0 : L 2 = true := by have := hd _ rfl; simp [Region.binds] at this; simp [this]
          have f2 := (hv 2 66 rfl l0).trans (q2 l0)
          have e6 : xa.tmps.getD 6 undef = .int .i64 0 := ho 6 (by kernel_rfl)
          refine Ri.step_wanted (b := false) rfl rfl rfl f2 (fun K' hK => ?_)
          go_simp
          exact hK _ _ ⟨_, _, rfl, rfl, hb, q0, q1, q2, fun _ => rfl, q4, q5, q6, q7, q8, q9, q10, q11, q12, q13, q14, q15⟩
        · have l0 : L 2 = true ∧ L 3 = true := by have := hd _ rfl; simp [Region.binds] at this; simp [this]
          have f2 := (hv 2 66 rfl l0.1).trans (q2 l0.1)
          have f3 := (hv 3 67 rfl l0.2).trans (q3 l0.2)
          refine Ri.step_wanted (b := false) rfl rfl rfl f2 (fun K' hK => ?_)
          go_simp
          exact hK _ _ ⟨_, _, rfl, rfl, hb, q0, q1, q2, q3, fun _ => rfl, q5, q6, q7, q8, q9, q10, q11, q12, q13, q14, q15⟩
        · have l0 : L 2 = true ∧ L 4 = true := by have := hd _ rfl; simp [Region.binds] at this; simp [this]
          have f2 := (hv 2 66 rfl l0.1).trans (q2 l0.1)
          have f4 := (hv 4 68 rfl l0.2).trans (q4 l0.2)
          refine Ri.step_plain rfl rfl (fun K' hK => ?_)
          go_simp
          exact hK _ _ ⟨_, _, rfl, rfl, hb, q0, q1, q2, q3, q4, fun _ => rfl, q6, q7, q8, q9, q10, q11, q12, q13, q14, q15⟩
        · have l0 : L 5 = true := by have := hd _ rfl; simp [Region.binds] at this; simp [this]
          have f5 := (hv 5 69 rfl l0).trans (q5 l0)
          refine Ri.step_plain rfl rfl (fun K' hK => ?_)
          go_simp
          exact hK _ _ ⟨_, _, rfl, rfl, hb, q0, q1, q2, q3, q4, q5, fun _ => rfl, q7, q8, q9, q10, q11, q12, q13, q14, q15⟩
        · have l0 : L 6 = true := by have := hd _ rfl; simp [Region.binds] at this; simp [this]
          have f6 := (hv 6 70 rfl l0).trans (q6 l0)
          have e5 : xa.tmps.getD 5 undef = .pointer (some ⟨w2.heap.size, 0, none⟩) := ho 5 (by kernel_rfl)
          refine Ri.step_wanted (b := false) rfl rfl rfl f6 (fun K' hK => ?_)
          refine wp_load_row _ _ rfl _ e5 _ _ _ _ (keep_blk hb Z3.out) Tryz.underlying28 rfl (by kernel_rfl) ?_
          exact hK _ _ ⟨_, _, rfl, rfl, hb, q0, q1, q2, q3, q4, q5, q6, fun _ => rfl, q8, q9, q10, q11, q12, q13, q14, q15⟩
        · have l0 : L 6 = true := by have := hd _ rfl; simp [Region.binds] at this; simp [this]
          have f6 := (hv 6 70 rfl l0).trans (q6 l0)
          have e0 : xa.tmps.getD 0 undef = .int .u8 (b.toNat : Int) := ho 0 (by kernel_rfl)
          refine Ri.step_wanted (b := false) rfl rfl rfl f6 (fun K' hK => ?_)
          go_simp
          exact hK _ _ ⟨_, _, rfl, rfl, hb, q0, q1, q2, q3, q4, q5, q6, q7, fun _ => rfl, q9, q10, q11, q12, q13, q14, q15⟩
        · have l0 : L 6 = true ∧ L 8 = true := by have := hd _ rfl; simp [Region.binds] at this; simp [this]
          have f6 := (hv 6 70 rfl l0.1).trans (q6 l0.1)
          have f8 := (hv 8 72 rfl l0.2).trans (q8 l0.2)
          refine Ri.step_wanted (b := false) rfl rfl rfl f6 (fun K' hK => ?_)
          refine wp_byte_at _ (.tmp 72) rfl f8 ?_
          exact hK _ _ ⟨_, _, rfl, rfl, hb.alloc hb.size _, q0, q1, q2, q3, q4, q5, q6, q7, q8, fun _ => ⟨_, rfl, heap_alloc_new _ _⟩, q10, q11, q12, q13, q14, q15⟩
        · have l0 : L 6 = true ∧ L 9 = true := by have := hd _ rfl; simp [Region.binds] at this; simp [this]
          have f6 := (hv 6 70 rfl l0.1).trans (q6 l0.1)
          have f9 := hv 9 73 rfl l0.2
          refine Ri.step_wanted (b := false) rfl rfl rfl f6 (fun K' hK => ?_)
          obtain ⟨g9, hg9, hz9⟩ := (q9 l0.2)
          have hc9 := byte_text b g9 w9 hz9
          rw [hg9] at f9
          go_simp
          exact hK _ _ ⟨_, _, rfl, rfl, hb, q0, q1, q2, q3, q4, q5, q6, q7, q8, q9, fun _ => rfl, q11, q12, q13, q14, q15⟩
        · have l0 : L 6 = true ∧ L 10 = true := by have := hd _ rfl; simp [Region.binds] at this; simp [this]
          have f6 := (hv 6 70 rfl l0.1).trans (q6 l0.1)
          have f10 := (hv 10 74 rfl l0.2).trans (q10 l0.2)
          refine Ri.step_wanted (b := false) rfl rfl rfl f6 (fun K' hK => ?_)
          go_simp
          refine (refof_byte b _).mono ?_
          rintro e w8 ⟨rfl, hb8⟩
          exact hK _ _ ⟨_, _, rfl, rfl, hb.trans (hb8.mono hb.size), q0, q1, q2, q3, q4, q5, q6, q7, q8, fun l => (q9 l).below hb8, q10, fun _ => rfl, q12, q13, q14, q15⟩
        · have l0 : L 6 = true ∧ L 11 = true := by have := hd _ rfl; simp [Region.binds] at this; simp [this]
          have f6 := (hv 6 70 rfl l0.1).trans (q6 l0.1)
          have f11 := (hv 11 75 rfl l0.2).trans (q11 l0.2)
          refine Ri.step_wanted (b := false) rfl rfl rfl f6 (fun K' hK => ?_)
          have g75 := (Array.getD_eq_getD_getElem? (xs := xa.tmps) (i := 75) (d := undef)).symm.trans f11
          go_simp
          exact hK _ _ ⟨_, _, rfl, rfl, hb, q0, q1, q2, q3, q4, q5, q6, q7, q8, q9, q10, q11, fun _ => rfl, q13, q14, q15⟩
        · have l0 : L 6 = true ∧ L 7 = true ∧ L 12 = true := by have := hd _ rfl; simp [Region.binds] at this; simp [this]
          have f6 := (hv 6 70 rfl l0.1).trans (q6 l0.1)
          have f7 := (hv 7 71 rfl l0.2.1).trans (q7 l0.2.1)
          have f12 := (hv 12 76 rfl l0.2.2).trans (q12 l0.2.2)
          refine Ri.step_wanted (b := false) rfl rfl rfl f6 (fun K' hK => ?_)
          go_simp
          refine ((samenodes_any (Ep.one false b.toNat) (Ep.one false b.toNat) _ (fun _ => True) (fun _ => True) _ _ ⟨_, rfl, TreesAt.nil⟩ ⟨_, rfl, TreesAt.nil⟩).mono fun _ _ h => h.yes rfl).mono ?_
          rintro e w8 ⟨rfl, hb8⟩
          exact hK _ _ ⟨_, _, rfl, rfl, hb.trans (hb8.mono hb.size), q0, q1, q2, q3, q4, q5, q6, q7, q8, fun l => (q9 l).below hb8, q10, q11, q12, fun _ => rfl, q14, q15⟩
        · have l0 : L 6 = true ∧ L 13 = true := by have := hd _ rfl; simp [Region.binds] at this; simp [this]
          have f6 := (hv 6 70 rfl l0.1).trans (q6 l0.1)
          have f13 := (hv 13 77 rfl l0.2).trans (q13 l0.2)
          refine Ri.step_wanted (b := false) rfl rfl rfl f6 (fun K' hK => ?_)
          go_simp
          exact hK _ _ ⟨_, _, rfl, rfl, hb, q0, q1, q2, q3, q4, q5, q6, q7, q8, q9, q10, q11, q12, q13, fun _ => rfl, q15⟩
        · have l0 : L 6 = true ∧ L 14 = true := by have := hd _ rfl; simp [Region.binds] at this; simp [this]
          have f6 := (hv 6 70 rfl l0.1).trans (q6 l0.1)
          have f14 := (hv 14 78 rfl l0.2).trans (q14 l0.2)
          refine Ri.step_plain rfl rfl (fun K' hK => ?_)
          go_simp
          exact hK _ _ ⟨_, _, rfl, rfl, hb, q0, q1, q2, q3, q4, q5, q6, q7, q8, q9, q10, q11, q12, q13, q14, fun _ => rfl⟩
      · rintro v w9 ⟨hb, -, -, -, -, -, -, -, -, -, -, -, -, -, -, -, q15⟩
        have q15' : v 15 = .bool false := q15 rfl
        simp only [Ri.frame, List.zipIdx, List.foldl_cons, List.foldl_nil, if_true, List.setIfInBounds_toArray, List.set_cons_zero, List.set_cons_succ, Nat.reduceAdd, q15']
        clear q15 q15'
        generalize v 0 = y0; generalize v 1 = y1; generalize v 2 = y2; generalize v 3 = y3; generalize v 4 = y4; generalize v 5 = y5; generalize v 6 = y6; generalize v 7 = y7; generalize v 8 = y8; generalize v 9 = y9; generalize v 10 = y10; generalize v 11 = y11; generalize v 12 = y12; generalize v 13 = y13; generalize v 14 = y14
        have HB9 := Lib.hid (HB3.out.trans (hb.mono HB3.out.size))
        have HE9 := Lib.hid (HE.out.below HB9.out); have HT9 := Lib.hid (HT.out.later HB9.out)
        clear hb hcv
        go_wp2
        go_loopw [9] (fun i wr => ∃ k : Nat, k ≤ x.size ∧ i = .int .i64 k ∧ wr = w9 ∧ ∀ j, j < k → 97 ≤ bt x j ∧ bt x j ≤ 122) (fun i _ => x.size - (intOf i).toNat)
        case atStart => exact ⟨0, Nat.zero_le _, rfl, rfl, fun j hj => absurd hj (by omega)⟩
        case round =>
          obtain ⟨k, hk, rfl, rfl, hall⟩ := hrel
          by_cases hlt : k < x.size
          · have hbk := bt_at hlt
            have hk2 := byteAt_lt x k
            rcases Nat.lt_or_ge (bt x k) 97 with c1 | c1
            · have l0 : decide ((x[k].toNat : Int) < 97) = true := by simp; omega
              have l1 : decide (x[k].toNat < 97) = true := by simp; omega
              have g0 : decide (122 < (x[k].toNat : Int)) = false := by simp; omega
              have g1 : decide (122 < x[k].toNat) = false := by simp; omega
              go_wp2
              go_ret
              exact ⟨rfl, HB9.out⟩
            · rcases Nat.lt_or_ge 122 (bt x k) with c2 | c2
              · have l0 : decide ((x[k].toNat : Int) < 97) = false := by simp; omega
                have l1 : decide (x[k].toNat < 97) = false := by simp; omega
                have g0 : decide (122 < (x[k].toNat : Int)) = true := by simp; omega
                have g1 : decide (122 < x[k].toNat) = true := by simp; omega
                go_wp2
                go_ret
                exact ⟨rfl, HB9.out⟩
              · have l0 : decide ((x[k].toNat : Int) < 97) = false := by simp; omega
                have l1 : decide (x[k].toNat < 97) = false := by simp; omega
                have g0 : decide (122 < (x[k].toNat : Int)) = false := by simp; omega
                have g1 : decide (122 < x[k].toNat) = false := by simp; omega
                have hnx : ∀ j, j < k + 1 → 97 ≤ bt x j ∧ bt x j ≤ 122 := fun j hj => by
                  rcases Nat.lt_or_ge j k with h | h
                  · exact hall j h
                  · obtain rfl : j = k := by omega
                    exact ⟨c1, c2⟩
                go_wp2
                exact ⟨⟨k + 1, by omega, by simp, trivial, hnx⟩, by simp only [intOf]; omega⟩
          · obtain rfl : k = x.size := by omega
            by_cases hbig : 1000 < x.size
            · go_wp2
              go_ret
              exact ⟨rfl, HB9.out⟩
            · have hpar : Ep.parse (bt (x ++ ⟨#[92]⟩)) (x ++ ⟨#[92]⟩ : ByteArray).size (icB 0) (nlB 0) = .err 8 x.size := by
                obtain ⟨h0, h1, h2, hz⟩ := bt_letters x
                rw [hz, ic0, nl0]
                exact Ep.letters_no (fun j hj => by rw [h0 j hj]; exact hall j hj) h1 h2 (by omega)
              go_wp2_with fail
              refine (HD.out A _ _ 0 HE9.out).mono ?_
              intro e w10 he
              obtain ⟨v, rfl, hv, hb2⟩ := he.err hpar
              obtain ⟨q2, rfl⟩ := hv.iface
              have HV := Lib.hid hv.at
              have HB10 := Lib.hid (HB9.out.trans (hb2.mono HB9.out.size)); have HE10 := Lib.hid (HE9.out.below hb2); have HT10 := Lib.hid (HT9.out.later hb2)
              clear he hv hb2
              go_wp2_with fail
              refine (HV.out.num HE10.out).mono ?_; rintro e w11 ⟨rfl, hb6⟩
              have HB11 := Lib.hid (HB10.out.trans (hb6.mono HB10.out.size)); have HT11 := Lib.hid (HT10.out.later hb6); have HV11 := Lib.hid (HV.out.later hb6)
              clear hb6
              go_wp2_with fail
              refine (HV11.out.place HT11.out).mono ?_; rintro e w12 ⟨rfl, hb7⟩
              have HB12 := Lib.hid (HB11.out.trans (hb7.mono HB11.out.size))
              clear hb7
              go_wp2
              go_ret
              exact ⟨rfl, HB12.out⟩
end Go.Proofs.YtlbhbjmobcikfaaGreatDoor
/- A set of bytes, and a list of sets, as they come in among the arguments. -/
namespace Go.Proofs.YtlbhbjmobcikfaaGreatDoor
open Go.ChangeShapes Go.WideShapes Go.ChangeAt Go.RowKit
theorem Tryz.cellsSet : Tryz.prog.cellsOf 25 = 4 := by kernel_rfl
theorem Tryz.cellsU64 : Tryz.prog.cellsOf 23 = 1 := by kernel_rfl
theorem word_of {n : Int} (h : (Lit.int .u64 n).wf = true) : ∃ x : BitVec 64, n = Oc.U x := by
  simp only [Lit.wf, IntKind.min, IntKind.max, IntKind.signed, IntKind.bits, Bool.and_eq_true] at h
  refine ⟨BitVec.ofInt 64 n, ?_⟩
  unfold Oc.U; rw [BitVec.toNat_ofInt]
  have h1 := h.1; have h2 := h.2
  simp at h1 h2
  omega
/-- Four cells that read as a set. -/
theorem open_words {H : Type} {enc : TypeId × Value → H} {w : World} {base : Nat} {spare : Nat → Bool} {held : Bool} {fuel : Nat} {c0 c1 c2 c3 : Value} {x : DataW H × List MemPlace}
    (h : DataW.trod enc Tryz.prog w base spare held fuel 25 [c0, c1, c2, c3] = some x) : ∃ a b c d : BitVec 64, c0 = .int .u64 (Oc.U a) ∧ c1 = .int .u64 (Oc.U b) ∧ c2 = .int .u64 (Oc.U c) ∧ c3 = .int .u64 (Oc.U d) := by
  obtain ⟨y0, y1, y2, y3, n, _, h0, h1, h2, h3⟩ := trod_array4 Tryz.underlying25 Tryz.cellsU64 h
  obtain ⟨n0, e0, -, w0⟩ := DataW.trod_int Tryz.underlying23 h0
  obtain ⟨n1, e1, -, w1⟩ := DataW.trod_int Tryz.underlying23 h1
  obtain ⟨n2, e2, -, w2⟩ := DataW.trod_int Tryz.underlying23 h2
  obtain ⟨n3, e3, -, w3⟩ := DataW.trod_int Tryz.underlying23 h3
  obtain ⟨a, rfl⟩ := word_of w0
  obtain ⟨b, rfl⟩ := word_of w1
  obtain ⟨c, rfl⟩ := word_of w2
  obtain ⟨d, rfl⟩ := word_of w3
  simp only [List.cons.injEq, and_true] at e0 e1 e2 e3
  exact ⟨a, b, c, d, e0, e1, e2, e3⟩
set_option maxRecDepth 100000 in
/-- A set among the arguments. -/
theorem open_set {H : Type} {enc : TypeId × Value → H} {w : World} {base b0 : Nat} {spare : Nat → Bool} {held : Bool} {v : Value} {y : DataW H} {ps : List MemPlace} {r : Reach}
    (hv : Value.okWide Tryz.prog w r b0 25 v) (h : DataW.Trod enc Tryz.prog w base spare held 25 v y ps) : ∃ a b c d : BitVec 64, v = (.agg #[.int .u64 (Oc.U a), .int .u64 (Oc.U b), .int .u64 (Oc.U c), .int .u64 (Oc.U d)]) := by
  unfold Value.okWide at hv
  rw [Tryz.underlying25] at hv
  obtain ⟨cs, rfl, hsz, -⟩ := hv
  rw [Tryz.cellsSet] at hsz
  obtain ⟨c0, c1, c2, c3, rfl⟩ := Joins.array4 hsz
  obtain ⟨fuel, hf⟩ := h
  obtain ⟨a, b, c, d, rfl, rfl, rfl, rfl⟩ := open_words hf
  exact ⟨a, b, c, d, rfl⟩
set_option maxRecDepth 100000 in
/-- A list of sets among the arguments. -/
theorem open_sets {H : Type} {enc : TypeId × Value → H} {w : World} {base : Nat} {spare : Nat → Bool} {held : Bool} {p : Option Addr} {len cap : Nat} {y : DataW H} {ps : List MemPlace}
    (h : DataW.Trod enc Tryz.prog w base spare held 170 (.slice p len cap) y ps) : ∃ A B C D : Nat → BitVec 64, SetsAt w p len A B C D ∧ (p = none → len = 0 ∧ cap = 0) ∧ len ≤ maxLen := by
  obtain ⟨fuel, hf⟩ := h
  rcases Deep.open_slice Tryz.underlying170 hf with ⟨hcs, _⟩ | ⟨a, l, c, m, n, D, Pl, hcs, _, hl, hm, hmm, _, hall⟩
  · simp [Value.cells] at hcs
    obtain ⟨rfl, rfl, rfl⟩ := hcs
    exact ⟨fun _ => 0#64, fun _ => 0#64, fun _ => 0#64, fun _ => 0#64, (fun i hi => by omega), (fun _ => ⟨rfl, rfl⟩), by unfold maxLen; omega⟩
  · simp [Value.cells] at hcs
    obtain ⟨rfl, rfl, rfl⟩ := hcs
    have hlm : len ≤ m := by rw [hmm]; split <;> omega
    have key : ∀ i, i < len → ∃ x : BitVec 64 × BitVec 64 × BitVec 64 × BitVec 64, w.cell? ((a.add (i * 4)).add 0) = some (.int .u64 (Oc.U x.1)) ∧ w.cell? ((a.add (i * 4)).add 1) = some (.int .u64 (Oc.U x.2.1)) ∧
        w.cell? ((a.add (i * 4)).add 2) = some (.int .u64 (Oc.U x.2.2.1)) ∧ w.cell? ((a.add (i * 4)).add 3) = some (.int .u64 (Oc.U x.2.2.2)) := by
      intro i hi
      obtain ⟨cs', hc, hr⟩ := hall i (by omega)
      rw [Tryz.cellsSet] at hc
      unfold World.cells? at hc
      split at hc
      · rw [show List.range 4 = [0, 1, 2, 3] from rfl] at hc
        simp only [List.mapM_cons, List.mapM_nil, Option.bind_eq_bind, Option.bind_eq_some_iff, Option.pure_def, Option.some.injEq] at hc
        obtain ⟨v0, g0, t0, ⟨v1, g1, t1, ⟨v2, g2, t2, ⟨v3, g3, t3, rfl, rfl⟩, rfl⟩, rfl⟩, rfl⟩ := hc
        obtain ⟨x0, x1, x2, x3, rfl, rfl, rfl, rfl⟩ := open_words hr
        exact ⟨(x0, x1, x2, x3), g0, g1, g2, g3⟩
      · cases hc
    obtain ⟨f, hf⟩ := Deep.choose_lt key
    refine ⟨fun i => (f i).1, fun i => (f i).2.1, fun i => (f i).2.2.1, fun i => (f i).2.2.2, ?_, (fun h => by cases h), by omega⟩
    intro i hi
    have hs : a.spot = none := by simpa [Addr.add] using World.cell?_spot (hf 0 (by omega)).1
    obtain ⟨g0, g1, g2, g3⟩ := hf i hi
    obtain ⟨b, o, sp⟩ := a
    subst hs
    rw [Addr.add_mid, Addr.add_mid] at g0 g1 g2 g3
    rw [Nat.add_zero] at g0
    exact ⟨b, o, rfl, block_lt_of_cell g0, g0, g1, g2, g3⟩
theorem Tryz.own : ownKnob Tryz.prog.godebug = none := by kernel_rfl
theorem Tryz.laidOut : laidOutB Tryz.prog = true := by kernel_rfl
end Go.Proofs.YtlbhbjmobcikfaaGreatDoor
/- What the laws of layer 3 take of the program's variables: the type error, and, where the code has them, the table of the words and the library's powers of ten. -/
namespace Go.Proofs.YtlbhbjmobcikfaaGreatDoor
open Go.RowKit
structure FaEnv (w : World) : Prop where
  ty : ErrType w
theorem FaEnv.later {w w' : World} (h : FaEnv w) (hb : Below w.heap.size w w') : FaEnv w' where
  ty := h.ty.later hb
end Go.Proofs.YtlbhbjmobcikfaaGreatDoor
/- What a listed handle beside listed data gives: package errors' variable of the type error. -/
namespace Go.Proofs.YtlbhbjmobcikfaaGreatDoor
open Go.ChangeShapes Go.WideShapes Go.ChangeAt Go.RowKit
theorem laid_split {P : Program} {l : List (String × DataW Unit)} {W : World} (h : laidMetH P l W) : laidMet P (l.filter fun x => x.2.handleName?.isNone) W ∧ handlesMet P (l.filter fun x => x.2.handleName?.isSome) W := by
  unfold laidMetH at h
  generalize hfl : (l.filter fun x => x.2.handleName?.isSome) = fl at h
  cases fl with
  | nil =>
    have e : (l.filter fun x => x.2.handleName?.isNone) = l := by
      rw [List.filter_eq_self]
      intro x hx
      have := List.filter_eq_nil_iff.1 hfl x hx
      cases hh : x.2.handleName? with
      | none => rfl
      | some y => rw [hh] at this; simp at this
    rw [e]
    exact ⟨h, fun x hx => by cases hx⟩
  | cons x r => exact h
theorem Tryz.errorTypeG : Tryz.prog.globalNamed "errors.errorType" = some 21 := by kernel_rfl
theorem Tryz.rtypeT : (Tryz.prog.cutTypes.find? (·.1 == "internal/reflectlite.rtype")).map (·.2) = some 108 := by kernel_rfl
theorem Tryz.errorRow : ((List.range Tryz.prog.types.size).filter fun t => Tryz.prog.rowNamed t [101, 114, 114, 111, 114]) = [30] := by kernel_rfl
theorem Tryz.errorHandle : typeHandle Tryz.prog 30 = .pointer (some ⟨Tryz.prog.globals.size, 30, none⟩) := by kernel_rfl
theorem errtype_of {l : List (String × DataW Unit)} {W : World} (h : handlesMet Tryz.prog l W) (hl : ("errors.errorType", Rows.laid_errors_errorType) ∈ l) : ErrType W := by
  obtain ⟨name, u, ty, e1, e2, e3, e4, e5⟩ := h _ hl
  have en : name = [101, 114, 114, 111, 114] := (Option.some.inj e1).symm
  subst en
  obtain rfl := Option.some.inj (Tryz.rtypeT.symm.trans e2)
  have hm : ty ∈ (List.range Tryz.prog.types.size).filter fun t => Tryz.prog.rowNamed t [101, 114, 114, 111, 114] := List.mem_filter.2 ⟨List.mem_range.2 e3, e4⟩
  rw [Tryz.errorRow] at hm
  obtain rfl := List.mem_singleton.1 hm
  rw [Tryz.errorHandle] at e5
  unfold ErrType
  simpa using World.var?_cell Tryz.errorTypeG e5 0
theorem errList_plain : ∀ x, x ∈ errList → x.2.handleName?.isNone = true := by
  have h : (errList.all fun x => x.2.handleName?.isNone) = true := by kernel_rfl
  intro x hx
  exact List.all_eq_true.1 h x hx
/-- The sentinels and the handle out of one list. -/
theorem errs_handle_of {l : List (String × DataW Unit)} {W : World} (h : laidMetH Tryz.prog l W) (hl : ∀ x, x ∈ errList → x ∈ l) (hh : ("errors.errorType", Rows.laid_errors_errorType) ∈ l) : (∃ A, Errs W A) ∧ ErrType W := by
  obtain ⟨h1, h2⟩ := laid_split h
  exact ⟨errs_of h1 fun x hx => List.mem_filter.2 ⟨hl x hx, errList_plain x hx⟩, errtype_of h2 (List.mem_filter.2 ⟨hh, rfl⟩)⟩
end Go.Proofs.YtlbhbjmobcikfaaGreatDoor
/- What the listed variables give: the sentinels, the type error, the table of the words, the powers of ten. -/
namespace Go.Proofs.YtlbhbjmobcikfaaGreatDoor
open Go.ChangeShapes Go.WideShapes Go.ChangeAt Go.RowKit
/-- All that the laws take, out of one list. -/
theorem fault_env_of {l : List (String × DataW Unit)} {W : World} (h : laidMetH Tryz.prog l W) (hl : ∀ x, x ∈ errList → x ∈ l) (hh : ("errors.errorType", Rows.laid_errors_errorType) ∈ l)
    : (∃ A, Errs W A) ∧ FaEnv W := by
  obtain ⟨h1, h2⟩ := errs_handle_of h hl hh
  have h3 := (laid_split h).1
  exact ⟨h1, {
    ty := h2
    }⟩
end Go.Proofs.YtlbhbjmobcikfaaGreatDoor
namespace Go.Proofs.YtlbhbjmobcikfaaGreatDoor.ereEscapes
open Go.ChangeShapes Go.WideShapes Go.ChangeAt Go.RowKit
theorem nat_of {n : Int} (h : (Lit.int .u8 n).wf = true) : ∃ m : Nat, n = (m : Int) ∧ m < 256 := by
  simp only [Lit.wf, IntKind.min, IntKind.max, IntKind.signed, IntKind.bits, Bool.and_eq_true] at h
  have h1 := h.1; have h2 := h.2
  simp at h1 h2
  exact ⟨n.toNat, by omega, by omega⟩
set_option maxRecDepth 100000 in
theorem contract (H : Type) (enc : TypeId × Value → H) (W : World) (base : Nat) (args : Array Value) (ds gs : List (DataW H)) (before : List MemPlace)
    (hval0 : ∀ (j : Nat) t v, Tryz.f6.params[j]? = some t → args[j]? = some v → Value.okWide Tryz.prog W .any base t v)
    (hW : DataW.Whole enc Tryz.prog Tryz.f6.params.toList Rows.ereEscapesSpec.vars false W args.toList ds gs before)
    (hsz0 : (DataW.weightsEach Tryz.prog (Tryz.f6.params.toList ++ Rows.ereEscapesSpec.plain.varTypes Tryz.prog) (ds ++ gs)).all (· ≤ reachBytes) = true)
    (hL : laidMetH Tryz.prog [("errors.errorType", Rows.laid_errors_errorType), ("trawl/api.ErrBracket", Rows.laid_trawl_api_ErrBracket), ("trawl/api.ErrParen", Rows.laid_trawl_api_ErrParen), ("trawl/api.ErrBrace", Rows.laid_trawl_api_ErrBrace), ("trawl/api.ErrCount", Rows.laid_trawl_api_ErrCount), ("trawl/api.ErrRange", Rows.laid_trawl_api_ErrRange), ("trawl/api.ErrClass", Rows.laid_trawl_api_ErrClass), ("trawl/api.ErrCollate", Rows.laid_trawl_api_ErrCollate), ("trawl/api.ErrEscape", Rows.laid_trawl_api_ErrEscape), ("trawl/api.ErrRepeat", Rows.laid_trawl_api_ErrRepeat), ("trawl/api.ErrTooBig", Rows.laid_trawl_api_ErrTooBig), ("trawl/api.ErrNest", Rows.laid_trawl_api_ErrNest), ("trawl/api.ErrLong", Rows.laid_trawl_api_ErrLong), ("trawl/api.ErrTree", Rows.laid_trawl_api_ErrTree), ("trawl/api.ErrDeep", Rows.laid_trawl_api_ErrDeep), ("trawl/api.ErrArgument", Rows.laid_trawl_api_ErrArgument), ("trawl/api.ErrNoMatch", Rows.laid_trawl_api_ErrNoMatch), ("trawl/api.ErrImage", Rows.laid_trawl_api_ErrImage), ("trawl/api.ErrMany", Rows.laid_trawl_api_ErrMany), ("trawl/api.ErrOption", Rows.laid_trawl_api_ErrOption), ("trawl/api.ErrCommand", Rows.laid_trawl_api_ErrCommand), ("trawl/api.ErrClosed", Rows.laid_trawl_api_ErrClosed)] W) (hSh : W.ShapedOpen Tryz.prog) :
    Calls Tryz.prog 6 args W fun e W' => ∃ v, e = .returned v ∧ Rows.ereEscapesSpec.post enc Tryz.prog Tryz.f6 false true false false W args v W' := by
  have hval : ∀ (j : Nat) t v, Tryz.f6.params[j]? = some t → args[j]? = some v → Value.okWide Tryz.prog W .any base t v := hval0
  have hW' := hW
  have hsz := hsz0
  obtain ⟨p, q, hA0, hV, rfl, hfz, hnd⟩ := hW
  have hA : DataW.TrodAll enc Tryz.prog W 0 (fun _ => true) true Tryz.f6.params.toList args.toList ds p := hA0
  rw [Tryz.params6] at hA hval
  obtain ⟨v0, vs0, d0, ds0, p0, q0, hargs, rfl, rfl, h0, r0⟩ := trodAll_cons hA
  obtain ⟨v1, vs1, d1, ds1, p1, q1, rfl, rfl, rfl, h1, r1⟩ := trodAll_cons r0
  obtain ⟨rfl, rfl, rfl⟩ := trodAll_nil r1
  obtain rfl : args = #[v0, v1] := by cases args; simp_all
  obtain ⟨rfl, rfl⟩ := trodVars_none hV
  have lt0 : ∀ x ∈ p0, x.block < W.heap.size := by obtain ⟨m, hm⟩ := h0; exact DataW.trod_lt m _ _ _ hm
  have lt1 : ∀ x ∈ p1, x.block < W.heap.size := by obtain ⟨m, hm⟩ := h1; exact DataW.trod_lt m _ _ _ hm
  obtain ⟨m0, rfl, -, -, w0⟩ := open_int Tryz.underlying5 (hval 0 5 v0 rfl rfl) h0
  obtain ⟨x, rfl, hd1, -, -⟩ := Go.ChangeMaps.open_string Tryz.underlying9 (hval 1 9 v1 rfl rfl) h1
  obtain ⟨c, rfl, h_c⟩ := nat_of w0
  have hs_x : x.size ≤ 140737488351232 := by
    have := sized_string (P := Tryz.prog) hsz (j := 1) (t := 9) (bytes := x.data.toList) (by rw [Tryz.params6]; rfl) (by rw [hd1]; rfl)
    simpa [reachBytes] using this
  obtain ⟨⟨E, hE⟩, hTy⟩ := fault_env_of hL (fun x h => by
    simp only [errList, List.mem_cons, List.not_mem_nil, or_false] at h
    rcases h with rfl | rfl | rfl | rfl | rfl | rfl | rfl | rfl | rfl | rfl | rfl | rfl | rfl | rfl | rfl | rfl | rfl | rfl | rfl | rfl | rfl
    · exact (List.mem_cons_of_mem _ List.mem_cons_self)
    · exact (List.mem_cons_of_mem _ (List.mem_cons_of_mem _ List.mem_cons_self))
    · exact (List.mem_cons_of_mem _ (List.mem_cons_of_mem _ (List.mem_cons_of_mem _ List.mem_cons_self)))
    · exact (List.mem_cons_of_mem _ (List.mem_cons_of_mem _ (List.mem_cons_of_mem _ (List.mem_cons_of_mem _ List.mem_cons_self))))
    · exact (List.mem_cons_of_mem _ (List.mem_cons_of_mem _ (List.mem_cons_of_mem _ (List.mem_cons_of_mem _ (List.mem_cons_of_mem _ List.mem_cons_self)))))
    · exact (List.mem_cons_of_mem _ (List.mem_cons_of_mem _ (List.mem_cons_of_mem _ (List.mem_cons_of_mem _ (List.mem_cons_of_mem _ (List.mem_cons_of_mem _ List.mem_cons_self))))))
    · exact (List.mem_cons_of_mem _ (List.mem_cons_of_mem _ (List.mem_cons_of_mem _ (List.mem_cons_of_mem _ (List.mem_cons_of_mem _ (List.mem_cons_of_mem _ (List.mem_cons_of_mem _ List.mem_cons_self)))))))
    · exact (List.mem_cons_of_mem _ (List.mem_cons_of_mem _ (List.mem_cons_of_mem _ (List.mem_cons_of_mem _ (List.mem_cons_of_mem _ (List.mem_cons_of_mem _ (List.mem_cons_of_mem _ (List.mem_cons_of_mem _ List.mem_cons_self))))))))
    · exact (List.mem_cons_of_mem _ (List.mem_cons_of_mem _ (List.mem_cons_of_mem _ (List.mem_cons_of_mem _ (List.mem_cons_of_mem _ (List.mem_cons_of_mem _ (List.mem_cons_of_mem _ (List.mem_cons_of_mem _ (List.mem_cons_of_mem _ List.mem_cons_self)))))))))
    · exact (List.mem_cons_of_mem _ (List.mem_cons_of_mem _ (List.mem_cons_of_mem _ (List.mem_cons_of_mem _ (List.mem_cons_of_mem _ (List.mem_cons_of_mem _ (List.mem_cons_of_mem _ (List.mem_cons_of_mem _ (List.mem_cons_of_mem _ (List.mem_cons_of_mem _ List.mem_cons_self))))))))))
    · exact (List.mem_cons_of_mem _ (List.mem_cons_of_mem _ (List.mem_cons_of_mem _ (List.mem_cons_of_mem _ (List.mem_cons_of_mem _ (List.mem_cons_of_mem _ (List.mem_cons_of_mem _ (List.mem_cons_of_mem _ (List.mem_cons_of_mem _ (List.mem_cons_of_mem _ (List.mem_cons_of_mem _ List.mem_cons_self)))))))))))
    · exact (List.mem_cons_of_mem _ (List.mem_cons_of_mem _ (List.mem_cons_of_mem _ (List.mem_cons_of_mem _ (List.mem_cons_of_mem _ (List.mem_cons_of_mem _ (List.mem_cons_of_mem _ (List.mem_cons_of_mem _ (List.mem_cons_of_mem _ (List.mem_cons_of_mem _ (List.mem_cons_of_mem _ (List.mem_cons_of_mem _ List.mem_cons_self))))))))))))
    · exact (List.mem_cons_of_mem _ (List.mem_cons_of_mem _ (List.mem_cons_of_mem _ (List.mem_cons_of_mem _ (List.mem_cons_of_mem _ (List.mem_cons_of_mem _ (List.mem_cons_of_mem _ (List.mem_cons_of_mem _ (List.mem_cons_of_mem _ (List.mem_cons_of_mem _ (List.mem_cons_of_mem _ (List.mem_cons_of_mem _ (List.mem_cons_of_mem _ List.mem_cons_self)))))))))))))
    · exact (List.mem_cons_of_mem _ (List.mem_cons_of_mem _ (List.mem_cons_of_mem _ (List.mem_cons_of_mem _ (List.mem_cons_of_mem _ (List.mem_cons_of_mem _ (List.mem_cons_of_mem _ (List.mem_cons_of_mem _ (List.mem_cons_of_mem _ (List.mem_cons_of_mem _ (List.mem_cons_of_mem _ (List.mem_cons_of_mem _ (List.mem_cons_of_mem _ (List.mem_cons_of_mem _ List.mem_cons_self))))))))))))))
    · exact (List.mem_cons_of_mem _ (List.mem_cons_of_mem _ (List.mem_cons_of_mem _ (List.mem_cons_of_mem _ (List.mem_cons_of_mem _ (List.mem_cons_of_mem _ (List.mem_cons_of_mem _ (List.mem_cons_of_mem _ (List.mem_cons_of_mem _ (List.mem_cons_of_mem _ (List.mem_cons_of_mem _ (List.mem_cons_of_mem _ (List.mem_cons_of_mem _ (List.mem_cons_of_mem _ (List.mem_cons_of_mem _ List.mem_cons_self)))))))))))))))
    · exact (List.mem_cons_of_mem _ (List.mem_cons_of_mem _ (List.mem_cons_of_mem _ (List.mem_cons_of_mem _ (List.mem_cons_of_mem _ (List.mem_cons_of_mem _ (List.mem_cons_of_mem _ (List.mem_cons_of_mem _ (List.mem_cons_of_mem _ (List.mem_cons_of_mem _ (List.mem_cons_of_mem _ (List.mem_cons_of_mem _ (List.mem_cons_of_mem _ (List.mem_cons_of_mem _ (List.mem_cons_of_mem _ (List.mem_cons_of_mem _ List.mem_cons_self))))))))))))))))
    · exact (List.mem_cons_of_mem _ (List.mem_cons_of_mem _ (List.mem_cons_of_mem _ (List.mem_cons_of_mem _ (List.mem_cons_of_mem _ (List.mem_cons_of_mem _ (List.mem_cons_of_mem _ (List.mem_cons_of_mem _ (List.mem_cons_of_mem _ (List.mem_cons_of_mem _ (List.mem_cons_of_mem _ (List.mem_cons_of_mem _ (List.mem_cons_of_mem _ (List.mem_cons_of_mem _ (List.mem_cons_of_mem _ (List.mem_cons_of_mem _ (List.mem_cons_of_mem _ List.mem_cons_self)))))))))))))))))
    · exact (List.mem_cons_of_mem _ (List.mem_cons_of_mem _ (List.mem_cons_of_mem _ (List.mem_cons_of_mem _ (List.mem_cons_of_mem _ (List.mem_cons_of_mem _ (List.mem_cons_of_mem _ (List.mem_cons_of_mem _ (List.mem_cons_of_mem _ (List.mem_cons_of_mem _ (List.mem_cons_of_mem _ (List.mem_cons_of_mem _ (List.mem_cons_of_mem _ (List.mem_cons_of_mem _ (List.mem_cons_of_mem _ (List.mem_cons_of_mem _ (List.mem_cons_of_mem _ (List.mem_cons_of_mem _ List.mem_cons_self))))))))))))))))))
    · exact (List.mem_cons_of_mem _ (List.mem_cons_of_mem _ (List.mem_cons_of_mem _ (List.mem_cons_of_mem _ (List.mem_cons_of_mem _ (List.mem_cons_of_mem _ (List.mem_cons_of_mem _ (List.mem_cons_of_mem _ (List.mem_cons_of_mem _ (List.mem_cons_of_mem _ (List.mem_cons_of_mem _ (List.mem_cons_of_mem _ (List.mem_cons_of_mem _ (List.mem_cons_of_mem _ (List.mem_cons_of_mem _ (List.mem_cons_of_mem _ (List.mem_cons_of_mem _ (List.mem_cons_of_mem _ (List.mem_cons_of_mem _ List.mem_cons_self)))))))))))))))))))
    · exact (List.mem_cons_of_mem _ (List.mem_cons_of_mem _ (List.mem_cons_of_mem _ (List.mem_cons_of_mem _ (List.mem_cons_of_mem _ (List.mem_cons_of_mem _ (List.mem_cons_of_mem _ (List.mem_cons_of_mem _ (List.mem_cons_of_mem _ (List.mem_cons_of_mem _ (List.mem_cons_of_mem _ (List.mem_cons_of_mem _ (List.mem_cons_of_mem _ (List.mem_cons_of_mem _ (List.mem_cons_of_mem _ (List.mem_cons_of_mem _ (List.mem_cons_of_mem _ (List.mem_cons_of_mem _ (List.mem_cons_of_mem _ (List.mem_cons_of_mem _ List.mem_cons_self))))))))))))))))))))
    · exact (List.mem_cons_of_mem _ (List.mem_cons_of_mem _ (List.mem_cons_of_mem _ (List.mem_cons_of_mem _ (List.mem_cons_of_mem _ (List.mem_cons_of_mem _ (List.mem_cons_of_mem _ (List.mem_cons_of_mem _ (List.mem_cons_of_mem _ (List.mem_cons_of_mem _ (List.mem_cons_of_mem _ (List.mem_cons_of_mem _ (List.mem_cons_of_mem _ (List.mem_cons_of_mem _ (List.mem_cons_of_mem _ (List.mem_cons_of_mem _ (List.mem_cons_of_mem _ (List.mem_cons_of_mem _ (List.mem_cons_of_mem _ (List.mem_cons_of_mem _ (List.mem_cons_of_mem _ List.mem_cons_self)))))))))))))))))))))) List.mem_cons_self
  have hI : BrEnv W E := ⟨hE, Tryz.laysM219.s1_3 W hSh⟩
  obtain ⟨b, rfl⟩ : ∃ b : UInt8, c = b.toNat := ⟨UInt8.ofNat c, by simp; omega⟩
  clear hA0 hval0 hsz hsz0
  refine (eresc_any E b x hs_x W hI hTy.ty).mono fun e W' ⟨he, bel⟩ => ?_
  subst he
  exact ⟨_, rfl, _, _, _, [], _, [], hW', trodAll_mk1 (shut_bool Tryz.underlying4 _),
    (trodAll_cons_mk (Below.trod Tryz.laidOut (by kernel_rfl) (of_decide_eq_true (by kernel_rfl)) h0 bel lt0) (trodAll_cons_mk (Below.trod Tryz.laidOut (by kernel_rfl) (of_decide_eq_true (by kernel_rfl)) h1 bel lt1) trodAll_mk0)), rfl, bel.frame _, fun h => by cases h⟩
theorem reads (os : Os) {H : Type} (enc : TypeId × Value → H) : ∃ places, DataW.whole enc Tryz.prog ((World.doorLaid Tryz.prog 3000 os).forCall (fun _ _ => 0) ⟨#[], #[.int .u8 0, .string ⟨#[]⟩], []⟩).memory Tryz.f6.params.toList Rows.ereEscapesSpec.vars false (#[.int .u8 0, .string ⟨#[]⟩] : Array Value).toList 8 = some ([.lit (.int .u8 0), .lit (.string [])], [], places) :=
  ⟨[], by kernel_rfl⟩
set_option maxRecDepth 100000 in
theorem lifted (os : Os) (started : os.Started) (H : Type) (enc : TypeId × Value → H) (F : Stop.Interp) :
    ReturnsInHanded {} Tryz.checked os 6 .any ((OpenSpec.ofChange Rows.ereEscapesSpec).preRow enc Tryz.prog Tryz.f6 Rows.ereEscapesRow.domain false Rows.ereEscapesRow.laid) (((OpenSpec.ofChange Rows.ereEscapesSpec).at F).post enc Tryz.prog Tryz.f6 false true false false) := by
  obtain ⟨places, hx⟩ := reads os enc
  refine returnsInHanded_of_row (C := Tryz.checked) (s := (OpenSpec.ofChange Rows.ereEscapesSpec)) Tryz.own started (by kernel_rfl) Tryz.func6
    (witness_row_atRef (enc := enc) (C := Tryz.checked) false (World.doorLaid Tryz.prog 3000 os) #[.int .u8 0, .string ⟨#[]⟩] rfl (by kernel_rfl) (by kernel_rfl) (by kernel_rfl)
      (OpenSpec.preRow_of_cond 8 hx (by kernel_rfl) (fun k hk => by cases hk) (by kernel_rfl) (laidMetH_of_parts3 (fuel := 8) (laidMet_of_run' 8 (by kernel_rfl) (by kernel_rfl)) (by kernel_rfl) (by kernel_rfl)))) ?_
  intro W base args ds gs before hval hW _ hcond hsz hL hSh _
  exact contract H enc W base args ds gs before hval hW hsz hL hSh
theorem over : Rows.EreEscapesSaid :=
  OpenClaim.holds_of_cond 6 Tryz.f6 rfl rfl rfl rfl rfl rfl rfl ⟨rfl, rfl, rfl, rfl, rfl⟩ rfl rfl rfl rfl rfl (by kernel_rfl) Tryz.func6 (by kernel_rfl)
    (of_decide_eq_true (by kernel_rfl)) (by unfold Func.isWrapper; first | (rw [if_pos (by decide +kernel)]; kernel_rfl) | (rw [if_neg (by decide +kernel)]; exact ⟨rfl, rfl⟩))
    (fun os started H enc _ F => by rw [OpenClaim.pre_eq_preRow]; exact lifted os started H enc F)
theorem proved : Rows.EreEscapesCardSaid :=
  Claim7.holds_tied_plain_at .later [] [.handle, .sentinel, .sentinel, .sentinel, .sentinel, .sentinel, .sentinel, .sentinel, .sentinel, .sentinel, .sentinel, .sentinel, .sentinel, .sentinel, .sentinel, .sentinel, .sentinel, .sentinel, .sentinel, .sentinel, .sentinel, .sentinel] true Rows.ereEscapesCard.stood.harness true
    over (fun _ h => by cases h) (by kernel_rfl) (fun _ h => by cases h) ereEscapes_row_tie rfl ⟨rfl, rfl⟩ (by kernel_rfl) rfl
    (fun f fn hf hfn => by
      obtain rfl : f = 6 := Option.some.inj ((show Tryz.prog.funcNamed "trawl/trawllaw06.EreEscapes" = some 6 by kernel_rfl).symm.trans hf) |>.symm
      obtain rfl : fn = Tryz.f6 := (Option.some.inj (Tryz.func6.symm.trans hfn)).symm
      exact ⟨by kernel_rfl, fun j t ht => by
        rw [Tryz.params6] at ht
        have hm : t ∈ ([5, 9] : List Nat) := by simpa using Array.mem_of_getElem? ht
        have hall : (([5, 9] : List Nat).all fun u => !Tryz.prog.wantsStandIn u) = true := by kernel_rfl
        exact (show Tryz.prog.wantsStandIn t = false by simpa using List.all_eq_true.1 hall t hm)⟩)
    (by kernel_rfl)
end Go.Proofs.YtlbhbjmobcikfaaGreatDoor.ereEscapes
