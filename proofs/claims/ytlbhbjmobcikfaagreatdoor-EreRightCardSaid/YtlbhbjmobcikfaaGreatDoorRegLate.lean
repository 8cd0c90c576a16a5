/- A region that draws its order and writes a slot that it has read: the rule of RegInv, with what lies in a slot until its operation has run. It imports nothing of the program. -/
import Derived.Test.YtlbhbjmobcikfaaGreatDoorRegInv
namespace Go.Proofs.YtlbhbjmobcikfaaGreatDoor
open Go.RowKit
namespace Ri
variable {P : Program} {ops : Array Oper} {Q : Exit → Act → World → Prop}
theorem wp_region_late {id : Nat} {a : Act} {w : World} (hm : P.follows .mixedOrders = true) (hb : backward ops = true) (hap : apart ops = true) (hsz0 : (ops.toList.all fun o => o.dst.all fun d => decide (d < a.tmps.size)) = true)
    (I : (Nat → Bool) → (Nat → Value) → World → Prop)
    (hi : I (fun _ => false) (fun _ => undef) w.drew)
    (step : ∀ i, i < ops.size → ∀ L v w (a' : Act), I L v w → L i = false → (∀ o, ops[i]? = some o → ∀ e ∈ o.after, Region.binds .any e = true → L e.on = true) →
      (∀ j d : Nat, (ops[j]?).bind (·.dst) = some d → L j = true → a'.tmps.getD d undef = v j) → (∀ d, ops.toList.all (fun o => o.dst != some d) = true → a'.tmps.getD d undef = a.tmps.getD d undef) →
      (∀ j d : Nat, (ops[j]?).bind (·.dst) = some d → L j = false → a'.tmps.getD d undef = a.tmps.getD d undef) →
      wpOp P ops Q i (fun b w' => ∃ (o : Oper) (u : Value), ops[i]? = some o ∧ b = a'.put o.dst u ∧ I (up L i true) (up v i u) w') a' w)
    (fin : ∀ v w, I (fun i => decide (i < ops.size)) v w → Q .normal (frame ops a (fun _ => true) v) w) :
    (Code.region id ops true).wp P Q a w := by
  have hsz : ∀ (i : Nat) (o : Oper) (d : Nat), ops[i]? = some o → o.dst = some d → d < a.tmps.size := fun i o d h1 h2 => by
    have := List.all_eq_true.1 hsz0 o (Array.mem_toList_iff.2 (Array.mem_of_getElem? h1))
    rw [h2] at this
    simpa using this
  refine wp_region_inv hm hb (fun L v w => I L v w ∧ ∀ i, ops.size ≤ i → L i = false) (frame ops a) ?_ ⟨hi, fun _ _ => rfl⟩ ?_ ?_
  · have := fold_none (fun _ => undef) ops.toList.zipIdx a.tmps
    unfold frame; rw [show (List.foldl _ a.tmps _) = a.tmps from this]
  · intro i hin L v w ⟨hI, hL⟩ hLi hd
    refine wpOp_mono ?_ (step i hin L v w (frame ops a L v) hI hLi hd ?_ ?_ ?_)
    · rintro b w' ⟨o, u, ho, rfl, hI'⟩
      exact ⟨u, frame_put hap a L v ho u, hI', fun j hj => by rw [up_other _ _ _ _ (by omega)]; exact hL j hj⟩
    · intro j d hjd hlj
      obtain ⟨o, ho, hod⟩ := Option.bind_eq_some_iff.1 hjd
      have hs := hsz j o d ho hod
      have := frame_own hap a L v ho hod hs
      rw [hlj, if_pos rfl] at this
      rw [Array.getD_eq_getD_getElem?, this]; rfl
    · intro d hall
      have hno : ∀ (j : Nat) (o : Oper), ops[j]? = some o → o.dst ≠ some d := fun j o ho => by
        have := List.all_eq_true.1 hall o (Array.mem_toList_iff.2 (Array.mem_of_getElem? ho))
        simpa using this
      rw [Array.getD_eq_getD_getElem?, Array.getD_eq_getD_getElem?, frame_other a L v hno]
    · intro j d hjd hlj
      obtain ⟨o, ho, hod⟩ := Option.bind_eq_some_iff.1 hjd
      have hs := hsz j o d ho hod
      have := frame_own hap a L v ho hod hs
      rw [hlj] at this
      rw [Array.getD_eq_getD_getElem?, Array.getD_eq_getD_getElem?, this]; rfl
  · intro L v w hall ⟨hI, hL⟩
    have e : L = fun i => decide (i < ops.size) := by
      funext i
      by_cases h : i < ops.size
      · rw [hall i h]; simp [h]
      · rw [hL i (by omega)]; simp [h]
    have e2 : frame ops a L v = frame ops a (fun _ => true) v := by
      have : ∀ s : Nat, (frame ops a L v).tmps[s]? = (frame ops a (fun _ => true) v).tmps[s]? := by
        intro s
        by_cases hex : ∃ (j : Nat) (o' : Oper), ops[j]? = some o' ∧ o'.dst = some s
        · obtain ⟨j, o', hj, hd⟩ := hex
          have hs := hsz j o' s hj hd
          rw [frame_own hap a _ _ hj hd hs, frame_own hap a _ _ hj hd hs, hall j (Array.getElem?_eq_some_iff.1 hj).1]
        · have hno : ∀ (j : Nat) (o' : Oper), ops[j]? = some o' → o'.dst ≠ some s := fun j o' h1 h2 => hex ⟨j, o', h1, h2⟩
          rw [frame_other a _ _ hno, frame_other a _ _ hno]
      have ht := Array.ext_getElem? this
      have hd : (frame ops a L v).defers = (frame ops a (fun _ => true) v).defers := rfl
      generalize frame ops a L v = x at *
      generalize frame ops a (fun _ => true) v = y at *
      cases x; cases y; simp_all
    rw [e2]
    exact fin v w (e ▸ hI)
end Ri
end Go.Proofs.YtlbhbjmobcikfaaGreatDoor
