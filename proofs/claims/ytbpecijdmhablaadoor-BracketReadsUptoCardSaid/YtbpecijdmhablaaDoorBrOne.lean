/- Lists of one byte and what Of, Not, Less make of sets told by what they hold. -/
import Derived.Test.YtbpecijdmhablaaDoorBrSpec
import Derived.Test.YtbpecijdmhablaaDoorRegInv
import Derived.Test.YtbpecijdmhablaaDoorOcPair
import Derived.Test.YtbpecijdmhablaaDoorClNamed0
import Derived.Test.YtbpecijdmhablaaDoorOcWalks2
namespace Go.Proofs.YtbpecijdmhablaaDoor
open Go.RowKit
/-- The same in a block that is new: at B or behind. -/
def Sl2N (B : Nat) (w : World) (v : Value) (a b c d a' b' c' d' : BitVec 64) : Prop := ∃ g, B ≤ g ∧ v = .slice (some ⟨g, 0, none⟩) 2 2 ∧ w.heap[g]? = some (.cells #[.int .u64 (Oc.U a), .int .u64 (Oc.U b), .int .u64 (Oc.U c), .int .u64 (Oc.U d), .int .u64 (Oc.U a'), .int .u64 (Oc.U b'), .int .u64 (Oc.U c'), .int .u64 (Oc.U d')] 25)
theorem Sl2N.plain {B : Nat} {w : World} {v : Value} {a b c d a' b' c' d' : BitVec 64} (h : Sl2N B w v a b c d a' b' c' d') : Sl2 w v a b c d a' b' c' d' := by
  obtain ⟨g, -, e, hg⟩ := h; exact ⟨g, e, hg⟩
theorem Sl2N.below {B : Nat} {w w' : World} {v : Value} {a b c d a' b' c' d' : BitVec 64} (h : Sl2N B w v a b c d a' b' c' d') (hb : Below w.heap.size w w') : Sl2N B w' v a b c d a' b' c' d' := by
  obtain ⟨g, hB, e, hg⟩ := h; exact ⟨g, hB, e, keep_blk hb hg⟩
theorem Sl2N.setRow {B : Nat} {w : World} {v : Value} {a b c d a' b' c' d' : BitVec 64} (h : Sl2N B w v a b c d a' b' c' d') {g : Nat} (hg : g < B) (cs : Array Value) : Sl2N B (w.setRow g cs) v a b c d a' b' c' d' := by
  obtain ⟨k, hB, e, hk⟩ := h; exact ⟨k, hB, e, (heap_setRow_other _ _ _ (by omega)).trans hk⟩
/-- A list of one byte. -/
def One (w : World) (v : Value) (m : Nat) : Prop := ∃ g, v = .slice (some ⟨g, 0, none⟩) 1 1 ∧ w.heap[g]? = some (.cells #[.int .u8 m] 5)
theorem One.below {w w' : World} {v : Value} {m : Nat} (h : One w v m) (hb : Below w.heap.size w w') : One w' v m := by
  obtain ⟨g, e, hg⟩ := h; exact ⟨g, e, keep_blk hb hg⟩
def OneN (B : Nat) (w : World) (v : Value) (m : Nat) : Prop := ∃ g, B ≤ g ∧ v = .slice (some ⟨g, 0, none⟩) 1 1 ∧ w.heap[g]? = some (.cells #[.int .u8 m] 5)
theorem OneN.plain {B : Nat} {w : World} {v : Value} {m : Nat} (h : OneN B w v m) : One w v m := by
  obtain ⟨g, -, e, hg⟩ := h; exact ⟨g, e, hg⟩
theorem OneN.below {B : Nat} {w w' : World} {v : Value} {m : Nat} (h : OneN B w v m) (hb : Below w.heap.size w w') : OneN B w' v m := by
  obtain ⟨g, hB, e, hg⟩ := h; exact ⟨g, hB, e, keep_blk hb hg⟩
theorem OneN.setRow {B : Nat} {w : World} {v : Value} {m : Nat} (h : OneN B w v m) {g : Nat} (hg : g < B) (cs : Array Value) : OneN B (w.setRow g cs) v m := by
  obtain ⟨k, hB, e, hk⟩ := h; exact ⟨k, hB, e, (heap_setRow_other _ _ _ (by omega)).trans hk⟩
theorem wp_bytes1 {o : Oper} {x : Act} {w : World} {K : Act → World → Prop} {Q : Exit → Act → World → Prop} (m : Int) (ho : o.op = .buildSlice 58 1 #[(0, .const (.int .u8 m))])
    (h : K (x.put o.dst (.slice (some ⟨w.heap.size, 0, none⟩) 1 1)) (w.alloc (.cells #[.int .u8 m] 5))) : o.wp Tryd.prog x w K Q := by
  obtain ⟨ie, hi, hz0, hz1, -⟩ := info_parts Tryd.infoByte
  refine wp_buildSlice 58 5 1 _ ho _ ie _ Tryd.underlying58 hi hz0 (by rw [hz1]; decide) (by rw [hz1]; decide) ?_ h
  rw [hz1]
  simp only [List.map_toArray, List.map_cons, List.map_nil, Act.eval]
  kernel_rfl
theorem one_any {w : World} {v : Value} {m : Nat} (hm : m < 256) (h : One w v m) : Calls Tryd.prog 14 #[v] w fun e w' => e = .returned (.agg #[.int .u64 (Oc.U (Oc.mk (fun b => b == m) 0)), .int .u64 (Oc.U (Oc.mk (fun b => b == m) 1)), .int .u64 (Oc.U (Oc.mk (fun b => b == m) 2)), .int .u64 (Oc.U (Oc.mk (fun b => b == m) 3))]) ∧ Below w.heap.size w w' := by
  obtain ⟨g, rfl, hg⟩ := h
  have hb : Oc.anyB (fun _ => m) 1 = fun b => b == m := by funext b; simp [Oc.anyB]
  have := of_any (some ⟨g, 0, none⟩) 1 1 (fun _ => m) (by omega) w (fun _ _ => hm) (fun i hi => by
    obtain rfl : i = 0 := by omega
    exact ⟨g, 0, rfl, (Array.getElem?_eq_some_iff.1 hg).1, by unfold World.cell?; rw [hg]; rfl⟩)
  rw [hb] at this
  exact this
theorem not_p (P : Nat → Bool) (w : World) : Calls Tryd.prog 11 #[(.agg #[.int .u64 (Oc.U (Oc.mk P 0)), .int .u64 (Oc.U (Oc.mk P 1)), .int .u64 (Oc.U (Oc.mk P 2)), .int .u64 (Oc.U (Oc.mk P 3))])] w fun e w' =>
    e = .returned (.agg #[.int .u64 (Oc.U (Oc.mk (fun x => !P x) 0)), .int .u64 (Oc.U (Oc.mk (fun x => !P x) 1)), .int .u64 (Oc.U (Oc.mk (fun x => !P x) 2)), .int .u64 (Oc.U (Oc.mk (fun x => !P x) 3))]) ∧ Below w.heap.size w w' := by
  have h := not_any (Oc.mk P 0) (Oc.mk P 1) (Oc.mk P 2) (Oc.mk P 3) w
  rw [Br.mk_not, Br.mk_not, Br.mk_not, Br.mk_not] at h
  exact h
theorem less_p (P R : Nat → Bool) (w : World) : Calls Tryd.prog 13 #[(.agg #[.int .u64 (Oc.U (Oc.mk P 0)), .int .u64 (Oc.U (Oc.mk P 1)), .int .u64 (Oc.U (Oc.mk P 2)), .int .u64 (Oc.U (Oc.mk P 3))]), (.agg #[.int .u64 (Oc.U (Oc.mk R 0)), .int .u64 (Oc.U (Oc.mk R 1)), .int .u64 (Oc.U (Oc.mk R 2)), .int .u64 (Oc.U (Oc.mk R 3))])] w fun e w' =>
    e = .returned (.agg #[.int .u64 (Oc.U (Oc.mk (fun x => P x && !R x) 0)), .int .u64 (Oc.U (Oc.mk (fun x => P x && !R x) 1)), .int .u64 (Oc.U (Oc.mk (fun x => P x && !R x) 2)), .int .u64 (Oc.U (Oc.mk (fun x => P x && !R x) 3))]) ∧ Below w.heap.size w w' := by
  have h := less_any (Oc.mk P 0) (Oc.mk P 1) (Oc.mk P 2) (Oc.mk P 3) (Oc.mk R 0) (Oc.mk R 1) (Oc.mk R 2) (Oc.mk R 3) w
  rw [Br.mk_not, Br.mk_not, Br.mk_not, Br.mk_not, Br.mk_and, Br.mk_and, Br.mk_and, Br.mk_and] at h
  exact h
end Go.Proofs.YtbpecijdmhablaaDoor
