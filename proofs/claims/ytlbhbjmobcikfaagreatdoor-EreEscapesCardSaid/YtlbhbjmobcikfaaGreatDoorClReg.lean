/- A region that joins a set in a variable with the set that a call makes, whatever its order. -/
import Derived.Test.YtlbhbjmobcikfaaGreatDoorOcPair
import Derived.Test.YtlbhbjmobcikfaaGreatDoorRegInv
namespace Go.Proofs.YtlbhbjmobcikfaaGreatDoor
open Go.RowKit
theorem wp_call {P : Program} {o : Oper} {x : Act} {w : World} {K : Act → World → Prop} {Q : Exit → Act → World → Prop} (f : Nat) (args : Array Operand) (ts : Array TypeId) (vals : Array Value) (R : Value → World → Prop)
    (ho : o.op = .call { callee := .value (.func f), args := args, argTypes := ts }) (hv : args.map x.eval = vals) (hx : (callFunc f vals).run P w = .ok (.enter f vals) w)
    (hc : Calls P f vals w fun e w' => ∃ v, e = .returned v ∧ R v w') (h : ∀ v w', R v w' → K (x.put o.dst v) w') : o.wp P x w K Q := by
  have hc' : Calls P f vals w fun
    | .returned v, w'' => K (x.put o.dst v) w''
    | .panicked chain, w'' => Q (.panic chain) x w''
    | .outgrown, _ => LetsOut Q := hc.mono (by rintro e w' ⟨v, rfl, hr⟩; exact h v w' hr)
  have hr : (execOp x.eval o).run P w = .ok (.enter f vals) w := by
    unfold execOp
    simp only [ho, resolve, hv, Act.eval, Deferred.ofValue, Sem.run_bind, Sem.run_pure, Result.andThen_ok, invoke]
    simpa using hx
  unfold Oper.wp
  rw [hr, Oper.upon_enter]
  exact hc'
theorem edge_on {o : Oper} {L : Nat → Bool} {j : Nat} (h : ∀ e ∈ o.after, Region.binds .any e = true → L e.on = true) (hj : (o.after.any fun e => Region.binds .any e && e.on == j) = true) : L j = true := by
  obtain ⟨e, he, hb⟩ := Array.any_eq_true'.1 hj
  rw [Bool.and_eq_true, beq_iff_eq] at hb
  exact hb.2 ▸ h e he hb.1
/-- What is known in such a region, whatever of it has run. -/
def JoinInv (B g r : Nat) (x : Obj) (w0 W : World) (a b c d a' b' c' d' e0 e1 e2 e3 : BitVec 64) (L : Nat → Bool) (v : Nat → Value) (w' : World) : Prop :=
  Below B w0 w' ∧ W.heap.size ≤ w'.heap.size ∧ w'.heap[r]? = some x ∧
  w'.heap[g]? = some (.cells (if L 4 then #[.int .u64 (Oc.U e0), .int .u64 (Oc.U e1), .int .u64 (Oc.U e2), .int .u64 (Oc.U e3)] else #[.int .u64 (Oc.U a), .int .u64 (Oc.U b), .int .u64 (Oc.U c), .int .u64 (Oc.U d)]) 25) ∧
  (L 4 = true → L 0 = true) ∧ (L 4 = true → L 3 = true) ∧ (L 0 = true → v 0 = (.agg #[.int .u64 (Oc.U a), .int .u64 (Oc.U b), .int .u64 (Oc.U c), .int .u64 (Oc.U d)])) ∧ (L 1 = true → v 1 = (.agg #[.int .u64 (Oc.U a'), .int .u64 (Oc.U b'), .int .u64 (Oc.U c'), .int .u64 (Oc.U d')])) ∧ (L 4 = false → L 2 = true → Sl2 w' (v 2) a b c d a' b' c' d') ∧ (L 3 = true → v 3 = (.agg #[.int .u64 (Oc.U e0), .int .u64 (Oc.U e1), .int .u64 (Oc.U e2), .int .u64 (Oc.U e3)]))
set_option maxRecDepth 100000 in
set_option maxHeartbeats 1000000 in
theorem join_reg {id : Nat} {act : Act} {W : World} {Q : Exit → Act → World → Prop} (B g r : Nat) (x : Obj) (w0 : World) (a b c d a' b' c' d' e0 e1 e2 e3 : BitVec 64)
    (f s d0 d1 d2 d3 : Nat) (fargs : Array Operand) (vals : Array Value) (fts : Array TypeId) (ty0 ty1 ty2 ty3 ty4 : TypeId) (p0 p1 p2 p3 p4 : String) (af0 af1 af2 af3 af4 : Array Edge) (ops : Array Oper)
    (hops : ops = #[⟨some d0, .load 25 (.tmp s), ty0, p0, af0, none⟩, ⟨some d1, .call { callee := .value (.func f), args := fargs, argTypes := fts }, ty1, p1, af1, none⟩, ⟨some d2, .buildSlice 170 2 #[(0, .tmp d0), (1, .tmp d1)], ty2, p2, af2, none⟩,
      ⟨some d3, .call { callee := .value (.func 143), args := #[.tmp d2], argTypes := #[170] }, ty3, p3, af3, none⟩, ⟨none, .store 25 (.tmp s) (.tmp d3), ty4, p4, af4, none⟩])
    (hb : Ri.backward ops = true) (hap : Ri.apart ops = true) (hsz0 : (ops.toList.all fun o => o.dst.all fun d => decide (d < act.tmps.size)) = true) (hs : ops.toList.all (fun o => o.dst != some s) = true)
    (k2 : (af2.any fun e => Region.binds .any e && e.on == 0) = true) (k2' : (af2.any fun e => Region.binds .any e && e.on == 1) = true) (k3 : (af3.any fun e => Region.binds .any e && e.on == 2) = true)
    (k4 : (af4.any fun e => Region.binds .any e && e.on == 3) = true) (k4' : (af4.any fun e => Region.binds .any e && e.on == 0) = true)
    (hslot : act.tmps.getD s undef = .pointer (some ⟨g, 0, none⟩)) (hv : ∀ y : Act, fargs.map y.eval = vals) (hx : ∀ w, (callFunc f vals).run Tryz.prog w = .ok (.enter f vals) w)
    (hf : ∀ w, Calls Tryz.prog f vals w fun e w' => e = .returned (.agg #[.int .u64 (Oc.U a'), .int .u64 (Oc.U b'), .int .u64 (Oc.U c'), .int .u64 (Oc.U d')]) ∧ Below w.heap.size w w')
    (he0 : e0 = a ||| a') (he1 : e1 = b ||| b') (he2 : e2 = c ||| c') (he3 : e3 = d ||| d')
    (hB : Below B w0 W) (hBg : B ≤ g) (hrg : r ≠ g) (hr : W.heap[r]? = some x) (hg : W.heap[g]? = some (.cells #[.int .u64 (Oc.U a), .int .u64 (Oc.U b), .int .u64 (Oc.U c), .int .u64 (Oc.U d)] 25))
    (fin : ∀ v w', Below B w0 w' → W.heap.size ≤ w'.heap.size → w'.heap[r]? = some x → w'.heap[g]? = some (.cells #[.int .u64 (Oc.U e0), .int .u64 (Oc.U e1), .int .u64 (Oc.U e2), .int .u64 (Oc.U e3)] 25) → Q .normal (Ri.frame ops act (fun _ => true) v) w') :
    (Code.region id ops true).wp Tryz.prog Q act W := by
  subst hops
  refine Ri.wp_region_frame (by kernel_rfl) hb hap hsz0 (JoinInv B g r x w0 W a b c d a' b' c' d' e0 e1 e2 e3) ?_ ?_ ?_
  · exact ⟨hB.drew, Nat.le_refl _, hr, hg, by simp, by simp, by simp, by simp, by simp, by simp⟩
  · intro i hi L v w1 y hI hL hd hvv ho
    have hi' : i = 0 ∨ i = 1 ∨ i = 2 ∨ i = 3 ∨ i = 4 := by simp at hi; omega
    obtain ⟨q0, q1, q2, q3, q4, q4', q5, q6, q7, q8⟩ := hI
    have es : y.tmps.getD s undef = .pointer (some ⟨g, 0, none⟩) := (ho s hs).trans hslot
    rcases hi' with rfl | rfl | rfl | rfl | rfl
    · have hl4 : L 4 = false := by cases h : L 4 with | false => rfl | true => rw [q4 h] at hL; cases hL
      refine Ri.step_plain rfl rfl (fun K' hK => ?_)
      rw [hl4] at q3
      refine wp_load_row _ _ rfl g es _ _ _ _ q3 Tryz.underlying25 rfl (by kernel_rfl) ?_
      refine hK _ _ ⟨_, _, rfl, rfl, q0, q1, q2, ?_, fun h => rfl, q4', fun _ => rfl, q6, q7, q8⟩
      show _ = some (Obj.cells (if L 4 = true then _ else _) _)
      rw [hl4]; exact q3
    · refine Ri.step_plain rfl rfl (fun K' hK => ?_)
      refine wp_call f fargs fts vals (fun v' w' => v' = (.agg #[.int .u64 (Oc.U a'), .int .u64 (Oc.U b'), .int .u64 (Oc.U c'), .int .u64 (Oc.U d')]) ∧ Below w1.heap.size w1 w') rfl (hv y) (hx _) ((hf w1).mono fun _ _ h => ⟨_, h.1, rfl, h.2⟩) ?_
      rintro _ w2 ⟨rfl, hb2⟩
      exact hK _ _ ⟨_, _, rfl, rfl, q0.trans (hb2.mono (by have := (Array.getElem?_eq_some_iff.1 q3).1; omega)), Nat.le_trans q1 hb2.size, keep_blk hb2 q2, keep_blk hb2 q3, q4, q4', q5, fun _ => rfl, fun h h' => (q7 h h').below hb2, q8⟩
    · have l0 : L 0 = true := edge_on (hd _ rfl) k2
      have l1 : L 1 = true := edge_on (hd _ rfl) k2'
      have f0 := (hvv 0 d0 rfl l0).trans (q5 l0)
      have f1 := (hvv 1 d1 rfl l1).trans (q6 l1)
      refine Ri.step_plain rfl rfl (fun K' hK => ?_)
      refine wp_pair (.tmp d0) (.tmp d1) rfl f0 f1 ?_
      exact hK _ _ ⟨_, _, rfl, rfl, q0.alloc (by have := (Array.getElem?_eq_some_iff.1 q3).1; omega) _, by simp; omega, heap_alloc_lt q2, heap_alloc_lt q3, q4, q4', q5, q6, fun _ _ => ⟨_, rfl, heap_alloc_new _ _⟩, q8⟩
    · have l2 : L 2 = true := edge_on (hd _ rfl) k3
      have l4 : L 4 = false := by cases h : L 4 with | false => rfl | true => rw [q4' h] at hL; cases hL
      have hsl := q7 l4 l2
      have f2 := (hvv 2 d2 rfl l2)
      refine Ri.step_plain rfl rfl (fun K' hK => ?_)
      refine wp_call 143 #[.tmp d2] #[170] #[v 2] (fun v' w' => v' = (.agg #[.int .u64 (Oc.U e0), .int .u64 (Oc.U e1), .int .u64 (Oc.U e2), .int .u64 (Oc.U e3)]) ∧ Below w1.heap.size w1 w') rfl (by simp only [List.map_toArray, List.map_cons, List.map_nil]; rw [show y.eval (.tmp d2) = v 2 from f2]) (by kernel_rfl) ((join2_any hsl).mono fun _ _ h => ⟨_, h.1, by rw [he0, he1, he2, he3], h.2⟩) ?_
      rintro _ w2 ⟨rfl, hb2⟩
      refine hK _ _ ⟨_, _, rfl, rfl, q0.trans (hb2.mono (by have := (Array.getElem?_eq_some_iff.1 q3).1; omega)), Nat.le_trans q1 hb2.size, keep_blk hb2 q2, keep_blk hb2 q3, q4, fun _ => rfl, q5, q6, fun h h' => (q7 h h').below hb2, fun _ => rfl⟩
    · have l3 : L 3 = true := edge_on (hd _ rfl) k4
      have l0 : L 0 = true := edge_on (hd _ rfl) k4'
      have f3 := (hvv 3 d3 rfl l3).trans (q8 l3)
      refine Ri.step_plain rfl rfl (fun K' hK => ?_)
      refine wp_store_row _ (.tmp s) (.tmp d3) rfl g #[.int .u64 (Oc.U e0), .int .u64 (Oc.U e1), .int .u64 (Oc.U e2), .int .u64 (Oc.U e3)] es f3 25 _ q3 (by kernel_rfl) (by split <;> rfl) (by simp [Value.oneCell']) ?_
      exact hK _ _ ⟨_, undef, rfl, rfl, below_setRow q0 hBg _, by simpa using q1, (heap_setRow_other _ _ _ hrg).trans q2, heap_setRow q3, fun _ => l0, fun _ => l3, q5, q6, (fun h => by cases h), q8⟩
  · rintro v w1 ⟨q0, q1, q2, q3, -⟩
    exact fin v w1 q0 q1 q2 q3
theorem Tryz.infoByte : (Tryz.prog.info? 5).map (fun i => (i.zero, i.size, i.bytes)) = some (some (.int .u8 0), 1, 1) := by kernel_rfl
/-- A list of two bytes that was just made. -/
theorem wp_bytes2 {o : Oper} {x : Act} {w : World} {K : Act → World → Prop} {Q : Exit → Act → World → Prop} (m n : Int) (ho : o.op = .buildSlice 45 2 #[(0, .const (.int .u8 m)), (1, .const (.int .u8 n))])
    (h : K (x.put o.dst (.slice (some ⟨w.heap.size, 0, none⟩) 2 2)) (w.alloc (.cells #[.int .u8 m, .int .u8 n] 5))) : o.wp Tryz.prog x w K Q := by
  obtain ⟨ie, hi, hz0, hz1, -⟩ := info_parts Tryz.infoByte
  refine wp_buildSlice 45 5 2 _ ho _ ie _ Tryz.underlying45 hi hz0 (by rw [hz1]; decide) (by rw [hz1]; decide) ?_ h
  rw [hz1]
  simp only [List.map_toArray, List.map_cons, List.map_nil, Act.eval]
  kernel_rfl
def BytesAt2 (w : World) (v : Value) (m n : Int) : Prop := ∃ g, v = .slice (some ⟨g, 0, none⟩) 2 2 ∧ w.heap[g]? = some (.cells #[.int .u8 m, .int .u8 n] 5)
theorem BytesAt2.below {w w' : World} {v : Value} {m n : Int} (h : BytesAt2 w v m n) (hb : Below w.heap.size w w') : BytesAt2 w' v m n := by
  obtain ⟨g, e, hg⟩ := h; exact ⟨g, e, keep_blk hb hg⟩
def JoinInv6 (B g r : Nat) (x : Obj) (w0 W : World) (m n : Int) (a b c d a' b' c' d' e0 e1 e2 e3 : BitVec 64) (L : Nat → Bool) (v : Nat → Value) (w' : World) : Prop :=
  Below B w0 w' ∧ W.heap.size ≤ w'.heap.size ∧ w'.heap[r]? = some x ∧
  w'.heap[g]? = some (.cells (if L 5 then #[.int .u64 (Oc.U e0), .int .u64 (Oc.U e1), .int .u64 (Oc.U e2), .int .u64 (Oc.U e3)] else #[.int .u64 (Oc.U a), .int .u64 (Oc.U b), .int .u64 (Oc.U c), .int .u64 (Oc.U d)]) 25) ∧
  (L 5 = true → L 0 = true) ∧ (L 5 = true → L 4 = true) ∧ (L 5 = true → L 2 = true) ∧ (L 0 = true → v 0 = (.agg #[.int .u64 (Oc.U a), .int .u64 (Oc.U b), .int .u64 (Oc.U c), .int .u64 (Oc.U d)])) ∧ (L 5 = false → L 1 = true → BytesAt2 w' (v 1) m n) ∧ (L 2 = true → v 2 = (.agg #[.int .u64 (Oc.U a'), .int .u64 (Oc.U b'), .int .u64 (Oc.U c'), .int .u64 (Oc.U d')])) ∧ (L 5 = false → L 3 = true → Sl2 w' (v 3) a b c d a' b' c' d') ∧ (L 4 = true → v 4 = (.agg #[.int .u64 (Oc.U e0), .int .u64 (Oc.U e1), .int .u64 (Oc.U e2), .int .u64 (Oc.U e3)]))
set_option maxRecDepth 100000 in
set_option maxHeartbeats 1000000 in
theorem join_reg6 {id : Nat} {act : Act} {W : World} {Q : Exit → Act → World → Prop} (B g r : Nat) (x : Obj) (w0 : World) (m n : Int) (a b c d a' b' c' d' e0 e1 e2 e3 : BitVec 64)
    (s d0 d1 d2 d3 d4 : Nat) (ty0 ty1 ty2 ty3 ty4 ty5 : TypeId) (p0 p1 p2 p3 p4 p5 : String) (af0 af1 af2 af3 af4 af5 : Array Edge) (ops : Array Oper)
    (hops : ops = #[⟨some d0, .load 25 (.tmp s), ty0, p0, af0, none⟩, ⟨some d1, .buildSlice 45 2 #[(0, .const (.int .u8 m)), (1, .const (.int .u8 n))], ty1, p1, af1, none⟩,
      ⟨some d2, .call { callee := .value (.func 118), args := #[.tmp d1], argTypes := #[45] }, ty2, p2, af2, none⟩, ⟨some d3, .buildSlice 170 2 #[(0, .tmp d0), (1, .tmp d2)], ty3, p3, af3, none⟩,
      ⟨some d4, .call { callee := .value (.func 143), args := #[.tmp d3], argTypes := #[170] }, ty4, p4, af4, none⟩, ⟨none, .store 25 (.tmp s) (.tmp d4), ty5, p5, af5, none⟩])
    (hb : Ri.backward ops = true) (hap : Ri.apart ops = true) (hsz0 : (ops.toList.all fun o => o.dst.all fun d => decide (d < act.tmps.size)) = true) (hs : ops.toList.all (fun o => o.dst != some s) = true)
    (k2 : (af2.any fun e => Region.binds .any e && e.on == 1) = true) (k3 : (af3.any fun e => Region.binds .any e && e.on == 0) = true) (k3' : (af3.any fun e => Region.binds .any e && e.on == 2) = true)
    (k4 : (af4.any fun e => Region.binds .any e && e.on == 3) = true) (k5 : (af5.any fun e => Region.binds .any e && e.on == 4) = true) (k5' : (af5.any fun e => Region.binds .any e && e.on == 0) = true) (k5'' : (af5.any fun e => Region.binds .any e && e.on == 2) = true)
    (hslot : act.tmps.getD s undef = .pointer (some ⟨g, 0, none⟩))
    (hf : ∀ w v, BytesAt2 w v m n → Calls Tryz.prog 118 #[v] w fun e w' => e = .returned (.agg #[.int .u64 (Oc.U a'), .int .u64 (Oc.U b'), .int .u64 (Oc.U c'), .int .u64 (Oc.U d')]) ∧ Below w.heap.size w w')
    (he0 : e0 = a ||| a') (he1 : e1 = b ||| b') (he2 : e2 = c ||| c') (he3 : e3 = d ||| d')
    (hB : Below B w0 W) (hBg : B ≤ g) (hrg : r ≠ g) (hr : W.heap[r]? = some x) (hg : W.heap[g]? = some (.cells #[.int .u64 (Oc.U a), .int .u64 (Oc.U b), .int .u64 (Oc.U c), .int .u64 (Oc.U d)] 25))
    (fin : ∀ v w', Below B w0 w' → W.heap.size ≤ w'.heap.size → w'.heap[r]? = some x → w'.heap[g]? = some (.cells #[.int .u64 (Oc.U e0), .int .u64 (Oc.U e1), .int .u64 (Oc.U e2), .int .u64 (Oc.U e3)] 25) → Q .normal (Ri.frame ops act (fun _ => true) v) w') :
    (Code.region id ops true).wp Tryz.prog Q act W := by
  subst hops
  refine Ri.wp_region_frame (by kernel_rfl) hb hap hsz0 (JoinInv6 B g r x w0 W m n a b c d a' b' c' d' e0 e1 e2 e3) ?_ ?_ ?_
  · exact ⟨hB.drew, Nat.le_refl _, hr, hg, by simp, by simp, by simp, by simp, by simp, by simp, by simp, by simp⟩
  · intro i hi L v w1 y hI hL hd hvv ho
    have hi' : i = 0 ∨ i = 1 ∨ i = 2 ∨ i = 3 ∨ i = 4 ∨ i = 5 := by simp at hi; omega
    obtain ⟨q0, q1, q2, q3, q4, q4', q4'', q5, qb, q6, q7, q8⟩ := hI
    have es : y.tmps.getD s undef = .pointer (some ⟨g, 0, none⟩) := (ho s hs).trans hslot
    have hgw : g < w1.heap.size := (Array.getElem?_eq_some_iff.1 q3).1
    rcases hi' with rfl | rfl | rfl | rfl | rfl | rfl
    · have hl4 : L 5 = false := by cases h : L 5 with | false => rfl | true => rw [q4 h] at hL; cases hL
      refine Ri.step_plain rfl rfl (fun K' hK => ?_)
      rw [hl4] at q3
      refine wp_load_row _ _ rfl g es _ _ _ _ q3 Tryz.underlying25 rfl (by kernel_rfl) ?_
      refine hK _ _ ⟨_, _, rfl, rfl, q0, q1, q2, ?_, fun h => rfl, q4', q4'', fun _ => rfl, qb, q6, q7, q8⟩
      show _ = some (Obj.cells (if L 5 = true then _ else _) _)
      rw [hl4]; exact q3
    · refine Ri.step_plain rfl rfl (fun K' hK => ?_)
      refine wp_bytes2 m n rfl ?_
      exact hK _ _ ⟨_, _, rfl, rfl, q0.alloc (by omega) _, by simp; omega, heap_alloc_lt q2, heap_alloc_lt q3, q4, q4', q4'', q5, fun _ _ => ⟨_, rfl, heap_alloc_new _ _⟩, q6, fun h h' => (q7 h h').below ((Below.refl _ _).alloc (Nat.le_refl _) _), q8⟩
    · have l1 : L 1 = true := edge_on (hd _ rfl) k2
      have l5 : L 5 = false := by cases h : L 5 with | false => rfl | true => rw [q4'' h] at hL; cases hL
      have f1 := (hvv 1 d1 rfl l1)
      refine Ri.step_plain rfl rfl (fun K' hK => ?_)
      refine wp_call 118 #[.tmp d1] #[45] #[v 1] (fun v' w' => v' = (.agg #[.int .u64 (Oc.U a'), .int .u64 (Oc.U b'), .int .u64 (Oc.U c'), .int .u64 (Oc.U d')]) ∧ Below w1.heap.size w1 w') rfl (by simp only [List.map_toArray, List.map_cons, List.map_nil]; rw [show y.eval (.tmp d1) = v 1 from f1]) (by kernel_rfl) ((hf w1 (v 1) (qb l5 l1)).mono fun _ _ h => ⟨_, h.1, rfl, h.2⟩) ?_
      rintro _ w2 ⟨rfl, hb2⟩
      exact hK _ _ ⟨_, _, rfl, rfl, q0.trans (hb2.mono (by omega)), Nat.le_trans q1 hb2.size, keep_blk hb2 q2, keep_blk hb2 q3, q4, q4', fun _ => rfl, q5, fun h h' => (qb h h').below hb2, fun _ => rfl, fun h h' => (q7 h h').below hb2, q8⟩
    · have l0 : L 0 = true := edge_on (hd _ rfl) k3
      have l2 : L 2 = true := edge_on (hd _ rfl) k3'
      have f0 := (hvv 0 d0 rfl l0).trans (q5 l0)
      have f1 := (hvv 2 d2 rfl l2).trans (q6 l2)
      refine Ri.step_plain rfl rfl (fun K' hK => ?_)
      refine wp_pair (.tmp d0) (.tmp d2) rfl f0 f1 ?_
      exact hK _ _ ⟨_, _, rfl, rfl, q0.alloc (by omega) _, by simp; omega, heap_alloc_lt q2, heap_alloc_lt q3, q4, q4', q4'', q5, fun h h' => (qb h h').below ((Below.refl _ _).alloc (Nat.le_refl _) _), q6, fun _ _ => ⟨_, rfl, heap_alloc_new _ _⟩, q8⟩
    · have l3 : L 3 = true := edge_on (hd _ rfl) k4
      have l5 : L 5 = false := by cases h : L 5 with | false => rfl | true => rw [q4' h] at hL; cases hL
      have hsl := q7 l5 l3
      have f2 := (hvv 3 d3 rfl l3)
      refine Ri.step_plain rfl rfl (fun K' hK => ?_)
      refine wp_call 143 #[.tmp d3] #[170] #[v 3] (fun v' w' => v' = (.agg #[.int .u64 (Oc.U e0), .int .u64 (Oc.U e1), .int .u64 (Oc.U e2), .int .u64 (Oc.U e3)]) ∧ Below w1.heap.size w1 w') rfl (by simp only [List.map_toArray, List.map_cons, List.map_nil]; rw [show y.eval (.tmp d3) = v 3 from f2]) (by kernel_rfl) ((join2_any hsl).mono fun _ _ h => ⟨_, h.1, by rw [he0, he1, he2, he3], h.2⟩) ?_
      rintro _ w2 ⟨rfl, hb2⟩
      exact hK _ _ ⟨_, _, rfl, rfl, q0.trans (hb2.mono (by omega)), Nat.le_trans q1 hb2.size, keep_blk hb2 q2, keep_blk hb2 q3, q4, fun _ => rfl, q4'', q5, fun h h' => (qb h h').below hb2, q6, fun h h' => (q7 h h').below hb2, fun _ => rfl⟩
    · have l3 : L 4 = true := edge_on (hd _ rfl) k5
      have l0 : L 0 = true := edge_on (hd _ rfl) k5'
      have l2 : L 2 = true := edge_on (hd _ rfl) k5''
      have f3 := (hvv 4 d4 rfl l3).trans (q8 l3)
      refine Ri.step_plain rfl rfl (fun K' hK => ?_)
      refine wp_store_row _ (.tmp s) (.tmp d4) rfl g #[.int .u64 (Oc.U e0), .int .u64 (Oc.U e1), .int .u64 (Oc.U e2), .int .u64 (Oc.U e3)] es f3 25 _ q3 (by kernel_rfl) (by split <;> rfl) (by simp [Value.oneCell']) ?_
      exact hK _ _ ⟨_, undef, rfl, rfl, below_setRow q0 hBg _, by simpa using q1, (heap_setRow_other _ _ _ hrg).trans q2, heap_setRow q3, fun _ => l0, fun _ => l3, fun _ => l2, q5, (fun h => by cases h), q6, (fun h => by cases h), q8⟩
  · rintro v w1 ⟨q0, q1, q2, q3, -⟩
    exact fin v w1 q0 q1 q2 q3
/-- A block of code whose way out is kept behind a name: blocks within blocks cost the kernel twice as much each otherwise. -/
theorem wp_block_hid {P : Program} {id : Nat} {c : Code} {Q : Exit → Act → World → Prop} {a : Act} {w : World} (h : ∀ Q' : Exit → Act → World → Prop, (∀ e a w, Exit.inBlock id Q e a w → Q' e a w) → c.wp P Q' a w) : (Code.block id c).wp P Q a w := by
  apply wp_block
  exact h _ (fun _ _ _ h => h)
end Go.Proofs.YtlbhbjmobcikfaaGreatDoor
