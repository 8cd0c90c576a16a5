/- A region that draws its order, by an invariant: one proof an operation, whatever has run before it. It imports nothing of the program. -/
import Derived.WalkKit
import Derived.RegionTactic
namespace Go.Proofs.YtlbhbjmobcikfaaGreatDoor
open Go.RowKit
namespace Ri

/-- f, but x at i. -/
def up {T : Type} (f : Nat → T) (i : Nat) (x : T) : Nat → T := fun j => if j = i then x else f j
theorem up_same {T : Type} (f : Nat → T) (i : Nat) (x : T) : up f i x i = x := by simp [up]
theorem up_other {T : Type} (f : Nat → T) (i : Nat) (x : T) (j : Nat) (h : j ≠ i) : up f i x j = f j := by simp [up, h]
/-- Every edge leads to an operation further up. -/
def backward (ops : Array Oper) : Bool := (List.range ops.size).all fun i => ((ops[i]?).map fun o => o.after.all fun e => !Region.binds .any e || decide (e.on < i)).getD true

variable {P : Program} {ops : Array Oper} {Q : Exit → Act → World → Prop}

theorem all_listed (hb : backward ops = true) {listed : Array Bool} (hr : Region.ready .any ops listed = []) (hs : listed.size = ops.size) : ∀ i, i < ops.size → listed.getD i false = true := by
  intro i
  induction i using Nat.strongRecOn with
  | _ i ih =>
    intro hi
    cases hl : listed.getD i false with
    | true => rfl
    | false =>
      exfalso
      have hmem : i ∈ Region.ready .any ops listed := by
        unfold Region.ready
        refine List.mem_filter.2 ⟨List.mem_range.2 hi, ?_⟩
        have h1 : listed.getD i true = false := by
          have : i < listed.size := by omega
          simp only [Array.getD, this, dif_pos] at hl ⊢
          exact hl
        have ho : ops[i]? = some ops[i] := Array.getElem?_eq_getElem hi
        rw [h1, ho]
        simp only [Bool.not_false, Bool.true_and, Option.map_some, Option.getD_some]
        rw [Array.all_eq_true_iff_forall_mem]
        intro e he
        cases hbi : Region.binds .any e with
        | false => rfl
        | true =>
          have hlt : e.on < i := by
            have h2 := List.all_eq_true.1 hb i (List.mem_range.2 hi)
            rw [ho] at h2
            simp only [Option.map_some, Option.getD_some] at h2
            have h3 := (Array.all_eq_true_iff_forall_mem.1 h2) e he
            rw [hbi] at h3
            simpa using h3
          simp [ih e.on hlt (by omega)]
      rw [hr] at hmem
      cases hmem

theorem wpAny_inv (hb : backward ops = true) (I : (Nat → Bool) → (Nat → Value) → World → Prop) (A : (Nat → Bool) → (Nat → Value) → Act)
    (step : ∀ i, i < ops.size → ∀ L v w, I L v w → L i = false → (∀ o, ops[i]? = some o → ∀ e ∈ o.after, Region.binds .any e = true → L e.on = true) →
      wpOp P ops Q i (fun a' w' => ∃ u, a' = A (up L i true) (up v i u) ∧ I (up L i true) (up v i u) w') (A L v) w)
    (fin : ∀ L v w, (∀ i, i < ops.size → L i = true) → I L v w → Q .normal (A L v) w) :
    ∀ (fuel : Nat) (U : List Nat) (listed : Array Bool) (v : Nat → Value) (w : World), listed.size = ops.size → U.length ≤ fuel → (∀ i, i < ops.size → listed.getD i false = false → i ∈ U) →
      I (fun i => listed.getD i false) v w → wpAny P .any ops Q fuel listed (A (fun i => listed.getD i false) v) w := by
  intro fuel
  induction fuel with
  | zero =>
    intro U listed v w hs hU hin hI
    have hnil : U = [] := List.eq_nil_of_length_eq_zero (by omega)
    subst hnil
    have hall : ∀ i, i < ops.size → listed.getD i false = true := fun i hi => by
      cases h : listed.getD i false with
      | true => rfl
      | false => exact absurd (hin i hi h) (by simp)
    refine ⟨?_, fin _ v w hall hI⟩
    unfold Region.ready
    rw [List.filter_eq_nil_iff]
    intro i hi
    have hi' := List.mem_range.1 hi
    have h1 : listed.getD i true = true := by
      have h0 := hall i hi'
      have : i < listed.size := by omega
      simp only [Array.getD, this, dif_pos] at h0 ⊢
      exact h0
    simp [h1]
  | succ fuel ih =>
    intro U listed v w hs hU hin hI
    refine ⟨fun hr => fin _ v w (all_listed hb hr hs) hI, fun i hi => ?_⟩
    unfold Region.ready at hi
    obtain ⟨hir, hcond⟩ := List.mem_filter.1 hi
    have hin' := List.mem_range.1 hir
    have ho : ops[i]? = some ops[i] := Array.getElem?_eq_getElem hin'
    rw [ho] at hcond
    simp only [Bool.and_eq_true, Option.map_some, Option.getD_some] at hcond
    obtain ⟨hl, hafter⟩ := hcond
    have hlf : listed.getD i false = false := by
      have : i < listed.size := by omega
      simp only [Array.getD, this, dif_pos] at hl ⊢
      simpa using hl
    have hst := step i hin' (fun j => listed.getD j false) v w hI hlf (fun o hoo e he hbi => by
      rw [ho] at hoo; cases hoo
      have h3 := (Array.all_eq_true_iff_forall_mem.1 hafter) e he
      rw [hbi] at h3
      simpa using h3)
    refine wpOp_mono (fun a' w' h => ?_) hst
    obtain ⟨u, rfl, hI'⟩ := h
    have hup : (fun j => (listed.setIfInBounds i true).getD j false) = up (fun j => listed.getD j false) i true := by
      funext j
      unfold up
      by_cases e : j = i
      · subst e
        have : j < (listed.setIfInBounds j true).size := by simp; omega
        simp [Array.getD]; omega
      · rw [if_neg e]
        simp only [Array.getD, Array.size_setIfInBounds]
        split
        · rename_i h; exact Array.getElem_setIfInBounds_ne h (Ne.symm e)
        · rfl
    have hmemU : i ∈ U := hin i hin' hlf
    have := ih (U.erase i) (listed.setIfInBounds i true) (up v i u) w' (by simpa using hs) (by rw [List.length_erase_of_mem hmemU]; have := List.length_pos_of_mem hmemU; omega)
      (fun j hj hjl => by
        have hj2 : (up (fun j => listed.getD j false) i true) j = false := by rw [← hup]; exact hjl
        by_cases e : j = i
        · subst e; rw [up_same] at hj2; cases hj2
        · rw [up_other _ _ _ _ e] at hj2
          exact (List.mem_erase_of_ne e).2 (hin j hj hj2))
      (by rw [hup]; exact hI')
    rw [hup] at this
    exact this

/-- THE RULE. A: the frame, by which operations have run and what each has yielded. I: what holds of the world then. -/
theorem wp_region_inv {id : Nat} {a : Act} {w : World} (hm : P.follows .mixedOrders = true) (hb : backward ops = true) (I : (Nat → Bool) → (Nat → Value) → World → Prop) (A : (Nat → Bool) → (Nat → Value) → Act)
    (ha : a = A (fun _ => false) (fun _ => undef)) (hi : I (fun _ => false) (fun _ => undef) w.drew)
    (step : ∀ i, i < ops.size → ∀ L v w, I L v w → L i = false → (∀ o, ops[i]? = some o → ∀ e ∈ o.after, Region.binds .any e = true → L e.on = true) →
      wpOp P ops Q i (fun a' w' => ∃ u, a' = A (up L i true) (up v i u) ∧ I (up L i true) (up v i u) w') (A L v) w)
    (fin : ∀ L v w, (∀ i, i < ops.size → L i = true) → I L v w → Q .normal (A L v) w) :
    (Code.region id ops true).wp P Q a w := by
  refine wp_region_any hm ?_
  have hz : (fun i => (Array.replicate ops.size false).getD i false) = fun _ => false := by
    funext i; simp only [Array.getD, Array.size_replicate]; split <;> simp
  have := wpAny_inv (P := P) hb I A step fin ops.size (List.range ops.size) (Array.replicate ops.size false) (fun _ => undef) w.drew (by simp) (by simp) (fun i hi _ => List.mem_range.2 hi) (by rw [hz]; exact hi)
  rw [hz, ← ha] at this
  exact this

/-- The frame while the region runs: a's, and in the slot of each operation that has run what it has yielded. -/
def frame (ops : Array Oper) (a : Act) (L : Nat → Bool) (v : Nat → Value) : Act :=
  { a with tmps := ops.toList.zipIdx.foldl (fun t p => match p.1.dst with | some d => if L p.2 then t.setIfInBounds d (v p.2) else t | none => t) a.tmps }
/-- No two operations write one slot. -/
def apart (ops : Array Oper) : Bool := (ops.toList.filterMap (·.dst)).eraseDups.length == (ops.toList.filterMap (·.dst)).length && ops.toList.zipIdx.all fun p => ops.toList.zipIdx.all fun q => p.2 == q.2 || p.1.dst == none || p.1.dst != q.1.dst
theorem fold_size (L : Nat → Bool) (v : Nat → Value) : ∀ (l : List (Oper × Nat)) (t : Array Value),
    (l.foldl (fun t p => match p.1.dst with | some d => if L p.2 then t.setIfInBounds d (v p.2) else t | none => t) t).size = t.size := by
  intro l
  induction l with
  | nil => intro t; rfl
  | cons p l ih =>
    intro t
    rw [List.foldl_cons, ih]
    split
    · split <;> simp
    · rfl
theorem fold_other (L : Nat → Bool) (v : Nat → Value) (s : Nat) : ∀ (l : List (Oper × Nat)) (t : Array Value), (∀ p ∈ l, p.1.dst ≠ some s) →
    (l.foldl (fun t p => match p.1.dst with | some d => if L p.2 then t.setIfInBounds d (v p.2) else t | none => t) t)[s]? = t[s]? := by
  intro l
  induction l with
  | nil => intro t _; rfl
  | cons p l ih =>
    intro t h
    rw [List.foldl_cons, ih _ (fun q hq => h q (List.mem_cons_of_mem _ hq))]
    have hp := h p (List.mem_cons_self ..)
    split
    · rename_i d hd
      split
      · rw [Array.getElem?_setIfInBounds_ne]; intro e; subst e; exact hp hd
      · rfl
    · rfl
theorem fold_own (L : Nat → Bool) (v : Nat → Value) (s : Nat) (i : Nat) : ∀ (l : List (Oper × Nat)) (t : Array Value), s < t.size → (∃ p ∈ l, p.1.dst = some s ∧ p.2 = i) → (∀ p ∈ l, p.1.dst = some s → p.2 = i) →
    (l.foldl (fun t p => match p.1.dst with | some d => if L p.2 then t.setIfInBounds d (v p.2) else t | none => t) t)[s]? = if L i then some (v i) else t[s]? := by
  intro l
  induction l with
  | nil => rintro t _ ⟨p, hp, _⟩ _; cases hp
  | cons p l ih =>
    intro t hs hex hun
    rw [List.foldl_cons]
    by_cases hp : p.1.dst = some s
    · have hi := hun p (List.mem_cons_self ..) hp
      rw [hp, hi]
      simp only []
      by_cases hl : ∃ q ∈ l, q.1.dst = some s ∧ q.2 = i
      · rw [ih _ (by split <;> simpa using hs) hl (fun q hq => hun q (List.mem_cons_of_mem _ hq))]
        cases L i <;> simp
      · rw [fold_other L v s l _ (fun q hq e => hl ⟨q, hq, e, hun q (List.mem_cons_of_mem _ hq) e⟩)]
        cases L i <;> simp [hs]
    · obtain ⟨q, hq, hqd, hqi⟩ := hex
      rcases List.mem_cons.1 hq with rfl | hq
      · exact absurd hqd hp
      · have hne : ∀ d, p.1.dst = some d → d ≠ s := fun d hd e => hp (by rw [hd, e])
        rw [ih _ (by split <;> (try split) <;> simpa using hs) ⟨q, hq, hqd, hqi⟩ (fun q hq => hun q (List.mem_cons_of_mem _ hq))]
        congr 1
        split
        · rename_i d hd
          split
          · rw [Array.getElem?_setIfInBounds_ne (hne d hd)]
          · rfl
        · rfl
theorem mem_zip {ops : Array Oper} {p : Oper × Nat} (h : p ∈ ops.toList.zipIdx) : ops[p.2]? = some p.1 := by
  obtain ⟨_, _, h3⟩ := List.mem_zipIdx (x := p.1) (i := p.2) (k := 0) h
  rw [Array.getElem?_eq_some_iff]
  exact ⟨by rename_i h2; simpa using h2, by rw [h3]; simp⟩
theorem zip_mem {ops : Array Oper} {i : Nat} {o : Oper} (h : ops[i]? = some o) : (o, i) ∈ ops.toList.zipIdx := by
  rw [List.mem_zipIdx_iff_getElem?]
  simpa using h
theorem apart_un (hap : apart ops = true) {i j : Nat} {o o' : Oper} {d : Nat} (hi : ops[i]? = some o) (hj : ops[j]? = some o') (h1 : o.dst = some d) (h2 : o'.dst = some d) : i = j := by
  unfold apart at hap
  rw [Bool.and_eq_true] at hap
  have h3 := List.all_eq_true.1 (List.all_eq_true.1 hap.2 _ (zip_mem hi)) _ (zip_mem hj)
  simpa [h1, h2] using h3
theorem frame_size (a : Act) (L : Nat → Bool) (v : Nat → Value) : (frame ops a L v).tmps.size = a.tmps.size := fold_size L v _ _
theorem frame_own (hap : apart ops = true) (a : Act) (L : Nat → Bool) (v : Nat → Value) {i d : Nat} {o : Oper} (ho : ops[i]? = some o) (hd : o.dst = some d) (hs : d < a.tmps.size) :
    (frame ops a L v).tmps[d]? = if L i then some (v i) else a.tmps[d]? :=
  fold_own L v d i _ _ hs ⟨_, zip_mem ho, hd, rfl⟩ (fun _ hp e => (apart_un hap ho (mem_zip hp) hd e).symm)
theorem frame_other (a : Act) (L : Nat → Bool) (v : Nat → Value) {d : Nat} (h : ∀ (i : Nat) (o : Oper), ops[i]? = some o → o.dst ≠ some d) : (frame ops a L v).tmps[d]? = a.tmps[d]? :=
  fold_other L v d _ _ (fun p hp => h p.2 p.1 (mem_zip hp))
theorem frame_put (hap : apart ops = true) (a : Act) (L : Nat → Bool) (v : Nat → Value) {i : Nat} {o : Oper} (ho : ops[i]? = some o) (u : Value) :
    (frame ops a L v).put o.dst u = frame ops a (up L i true) (up v i u) := by
  have key : ∀ s : Nat, ((frame ops a L v).put o.dst u).tmps[s]? = (frame ops a (up L i true) (up v i u)).tmps[s]? := by
    intro s
    by_cases hs : s < a.tmps.size
    · by_cases hex : ∃ (j : Nat) (o' : Oper), ops[j]? = some o' ∧ o'.dst = some s
      · obtain ⟨j, o', hj, hd⟩ := hex
        rw [frame_own hap a _ _ hj hd hs]
        by_cases e : j = i
        · subst e
          rw [ho] at hj; cases hj
          rw [hd, up_same, up_same]
          simp only [Act.put, if_true]
          rw [Array.getElem?_setIfInBounds_self, if_pos (by rw [frame_size]; exact hs)]
        · rw [up_other _ _ _ _ e, up_other _ _ _ _ e, ← frame_own hap a L v hj hd hs]
          cases hod : o.dst with
          | none => rfl
          | some d =>
            simp only [Act.put]
            rw [Array.getElem?_setIfInBounds_ne]
            intro e'; subst e'; exact e (apart_un hap hj ho hd hod)
      · have hno : ∀ (j : Nat) (o' : Oper), ops[j]? = some o' → o'.dst ≠ some s := fun j o' h1 h2 => hex ⟨j, o', h1, h2⟩
        rw [frame_other a _ _ hno, ← frame_other a L v hno]
        cases hod : o.dst with
        | none => rfl
        | some d =>
          simp only [Act.put]
          rw [Array.getElem?_setIfInBounds_ne]
          intro e'; subst e'; exact hno i o ho hod
    · have h1 : (frame ops a (up L i true) (up v i u)).tmps[s]? = none := Array.getElem?_eq_none (by rw [frame_size]; omega)
      have h2 : ((frame ops a L v).put o.dst u).tmps[s]? = none := by
        refine Array.getElem?_eq_none ?_
        cases o.dst <;> simp [Act.put, frame_size] <;> omega
      rw [h1, h2]
  have ht : ((frame ops a L v).put o.dst u).tmps = (frame ops a (up L i true) (up v i u)).tmps := Array.ext_getElem? key
  have hd : ((frame ops a L v).put o.dst u).defers = (frame ops a (up L i true) (up v i u)).defers := by cases o.dst <;> rfl
  generalize (frame ops a L v).put o.dst u = x at *
  generalize frame ops a (up L i true) (up v i u) = y at *
  cases x; cases y; simp_all

theorem fold_none (v : Nat → Value) : ∀ (l : List (Oper × Nat)) (t : Array Value),
    l.foldl (fun t p => match p.1.dst with | some d => if (fun _ : Nat => false) p.2 then t.setIfInBounds d (v p.2) else t | none => t) t = t := by
  intro l
  induction l with
  | nil => intro t; rfl
  | cons p l ih => intro t; rw [List.foldl_cons]; cases p.1.dst <;> exact ih t
/-- THE RULE, the frame written by the region's own text. -/
theorem wp_region_frame {id : Nat} {a : Act} {w : World} (hm : P.follows .mixedOrders = true) (hb : backward ops = true) (hap : apart ops = true) (hsz0 : (ops.toList.all fun o => o.dst.all fun d => decide (d < a.tmps.size)) = true)
    (I : (Nat → Bool) → (Nat → Value) → World → Prop)
    (hi : I (fun _ => false) (fun _ => undef) w.drew)
    (step : ∀ i, i < ops.size → ∀ L v w (a' : Act), I L v w → L i = false → (∀ o, ops[i]? = some o → ∀ e ∈ o.after, Region.binds .any e = true → L e.on = true) →
      (∀ j d : Nat, (ops[j]?).bind (·.dst) = some d → L j = true → a'.tmps.getD d undef = v j) → (∀ d, ops.toList.all (fun o => o.dst != some d) = true → a'.tmps.getD d undef = a.tmps.getD d undef) →
      wpOp P ops Q i (fun b w' => ∃ (o : Oper) (u : Value), ops[i]? = some o ∧ b = a'.put o.dst u ∧ I (up L i true) (up v i u) w') a' w)
    (fin : ∀ v w, I (fun i => decide (i < ops.size)) v w → Q .normal (frame ops a (fun _ => true) v) w) :
    (Code.region id ops true).wp P Q a w := by
  have hsz : ∀ (i : Nat) (o : Oper) (d : Nat), ops[i]? = some o → o.dst = some d → d < a.tmps.size := fun i o d h1 h2 => by
    have := List.all_eq_true.1 hsz0 o (Array.mem_toList_iff.2 (Array.mem_of_getElem? h1))
    rw [h2] at this
    simpa using this
  refine wp_region_inv hm hb (fun L v w => I L v w ∧ ∀ i, ops.size ≤ i → L i = false) (frame ops a) ?_ ⟨hi, fun _ _ => rfl⟩ ?_ ?_
  · have := fold_none (fun _ => undef) ops.toList.zipIdx a.tmps
    unfold frame; rw [show (List.foldl _ a.tmps _) = a.tmps from this]
  · intro i hin L v w ⟨hI, hL⟩ hLi hd
    refine wpOp_mono ?_ (step i hin L v w (frame ops a L v) hI hLi hd ?_ ?_)
    · rintro b w' ⟨o, u, ho, rfl, hI'⟩
      exact ⟨u, frame_put hap a L v ho u, hI', fun j hj => by rw [up_other _ _ _ _ (by omega)]; exact hL j hj⟩
    · intro j d hjd hlj
      obtain ⟨o, ho, hod⟩ := Option.bind_eq_some_iff.1 hjd
      have hs := hsz j o d ho hod
      have := frame_own hap a L v ho hod hs
      rw [hlj, if_pos rfl] at this
      rw [Array.getD_eq_getD_getElem?, this]; rfl
    · intro d hall
      have hno : ∀ (j : Nat) (o : Oper), ops[j]? = some o → o.dst ≠ some d := fun j o ho => by
        have := List.all_eq_true.1 hall o (Array.mem_toList_iff.2 (Array.mem_of_getElem? ho))
        simpa using this
      rw [Array.getD_eq_getD_getElem?, Array.getD_eq_getD_getElem?, frame_other a L v hno]
  · intro L v w hall ⟨hI, hL⟩
    have e : L = fun i => decide (i < ops.size) := by
      funext i
      by_cases h : i < ops.size
      · rw [hall i h]; simp [h]
      · rw [hL i (by omega)]; simp [h]
    have e2 : frame ops a L v = frame ops a (fun _ => true) v := by
      have : ∀ s : Nat, (frame ops a L v).tmps[s]? = (frame ops a (fun _ => true) v).tmps[s]? := by
        intro s
        by_cases hex : ∃ (j : Nat) (o' : Oper), ops[j]? = some o' ∧ o'.dst = some s
        · obtain ⟨j, o', hj, hd⟩ := hex
          have hs := hsz j o' s hj hd
          rw [frame_own hap a _ _ hj hd hs, frame_own hap a _ _ hj hd hs, hall j (Array.getElem?_eq_some_iff.1 hj).1]
        · have hno : ∀ (j : Nat) (o' : Oper), ops[j]? = some o' → o'.dst ≠ some s := fun j o' h1 h2 => hex ⟨j, o', h1, h2⟩
          rw [frame_other a _ _ hno, frame_other a _ _ hno]
      have ht := Array.ext_getElem? this
      have hd : (frame ops a L v).defers = (frame ops a (fun _ => true) v).defers := rfl
      generalize frame ops a L v = x at *
      generalize frame ops a (fun _ => true) v = y at *
      cases x; cases y; simp_all
    rw [e2]
    exact fin v w (e ▸ hI)
/-- One operation without a guard. -/
theorem step_plain {i : Nat} {o : Oper} {K : Act → World → Prop} {a : Act} {w : World} (ho : ops[i]? = some o) (hg : o.guard = none)
    (h : ∀ K' : Act → World → Prop, (∀ a w, K a w → K' a w) → Oper.wp P o a w K' Q) : wpOp P ops Q i K a w :=
  wpOp_step ho fun K' hK => by rw [if_pos (by simp [Region.wanted, hg])]; exact h K' hK
theorem some_of_getD {t : Array Value} {i : Nat} {b : Bool} (h : t.getD i undef = .bool b) : t[i]? = some (.bool b) := by
  rw [Array.getD_eq_getD_getElem?] at h
  cases hx : t[i]? with
  | none => rw [hx] at h; cases h
  | some v => rw [hx] at h; exact congrArg some h
/-- One operation whose guard says yes. -/
theorem step_wanted {i j d : Nat} {b : Bool} {o : Oper} {K : Act → World → Prop} {a : Act} {w : World} (ho : ops[i]? = some o) (hg : o.guard = some (j, b)) (hd : (ops[j]?).bind (·.dst) = some d) (hv : a.tmps.getD d undef = .bool b)
    (h : ∀ K' : Act → World → Prop, (∀ a w, K a w → K' a w) → Oper.wp P o a w K' Q) : wpOp P ops Q i K a w :=
  wpOp_step ho fun K' hK => by
    rw [if_pos (by simp [Region.wanted, hg, yielded, hd, some_of_getD hv])]; exact h K' hK
/-- One operation whose guard says no. -/
theorem step_unwanted {i j d : Nat} {b : Bool} {o : Oper} {K : Act → World → Prop} {a : Act} {w : World} (ho : ops[i]? = some o) (hg : o.guard = some (j, !b)) (hd : (ops[j]?).bind (·.dst) = some d) (hv : a.tmps.getD d undef = .bool b)
    (h : K (a.put o.dst undef) w) : wpOp P ops Q i K a w :=
  wpOp_step ho fun K' hK => by
    rw [if_neg (by cases b <;> simp [Region.wanted, hg, yielded, hd, some_of_getD hv])]; exact hK _ _ h
end Ri
end Go.Proofs.YtlbhbjmobcikfaaGreatDoor
