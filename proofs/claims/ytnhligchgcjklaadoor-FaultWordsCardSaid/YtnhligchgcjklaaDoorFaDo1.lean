/- Word, finds, and the searches that Code, Place, Index hand to it. -/
import Derived.Test.YtnhligchgcjklaaDoorFaSpec
import Derived.Recover
import Derived.Laws.EntriesVeiled
namespace Go.Proofs.YtnhligchgcjklaaDoor
open Go.RowKit Go.Extern.Stop Go.Stop Go.Extern
theorem word_any (n : Int) (w : World) (hF : FaEnv w) : Calls Tryd.prog 17 #[.int .i64 n] w fun e w' => e = .returned (.string (wordAt n)) ∧ Below w.heap.size w w' := by
  by_cases h0 : n < 0
  · have HN := Lib.hid (show wordAt n = ⟨#[]⟩ by unfold wordAt; rw [if_neg (by omega)])
    clear hF
    go_enter Tryd.func17, Tryd.ntmps17
    go_wp2
    go_ret
    exact ⟨by rw [HN.out]; rfl, Below.refl _ _⟩
  · by_cases h1 : 22 ≤ n
    · have h3 : (0 : Int) ≤ n := by omega
      have HN := Lib.hid (show wordAt n = ⟨#[]⟩ by unfold wordAt; rw [if_neg (by omega)])
      clear h0 hF
      go_enter Tryd.func17, Tryd.ntmps17
      go_wp2
      go_ret
      exact ⟨by rw [HN.out]; rfl, Below.refl _ _⟩
    · obtain ⟨m, rfl⟩ : ∃ m : Nat, n = (m : Int) := ⟨n.toNat, by omega⟩
      have hm : m < 22 := by omega
      have hm' : decide ((22 : Int) ≤ (m : Int)) = false := by simp; omega
      have HN := Lib.hid (show wordAt (m : Int) = wordS m by unfold wordAt; rw [if_pos (by omega)]; simp)
      have hc := hF.words m hm
      clear h0 h1 hF
      generalize wordS m = s at *
      go_enter Tryd.func17, Tryd.ntmps17
      go_wp2
      go_ret
      exact ⟨by rw [HN.out]; rfl, Below.refl _ _⟩
theorem caught_idle (p : Addr) (w : World) :
    CallsD Tryd.prog 35 #[.pointer (some p)] .returning w fun e u' w' => e = .returned (.tuple #[]) ∧ u' = .returning ∧ w' = w := by
  refine callsD_of_wpS Tryd.func35 rfl fun c₀ cs hu => ?_
  apply wpS_seq
  apply wpS_region
  simp [wpOpsS, go_sem, recoverD, hu, Tryd.ntmps35, Exit.thenS]
  refine wpS_cond (t := false) (by simp [Act.eval, Array.replicate]) ?_
  simp only [Bool.false_eq_true, if_false]
  refine wpS_of_wp (wp_skip ?_)
  cases c₀
  simp_all [bodyPostS, results, Tryd.results35]
set_option maxRecDepth 100000 in
/-- finds answers what the search answers, where the search does not panic. -/
theorem finds_of (K : FuncId) (first caps : Array Value) (b : Bool) (w : World) (Q : World → Prop) (hE : ∀ args w, (callFunc K args).run Tryd.prog w = .ok (.enter K args) w) (hQ : ∀ w1, Q w1 → w1.heap[w.heap.size]? = some (.cells #[.bool false] 4))
    (hc : Calls Tryd.prog K (first ++ caps) (w.alloc (.cells #[.bool false] 4)) fun e w' => e = .returned (.bool b) ∧ Q w') :
    Calls Tryd.prog 27 #[.func (.func K) first caps] w fun e w' => e = .returned (.bool b) ∧ ∃ w1, Q w1 ∧ w' = w1.setCell ⟨w.heap.size, 0, none⟩ (.bool b) := by
  have hmf : ∀ (fn : Fn) (first cap : Array Value) (w : World), (Instr.makeFunc fn first cap).run Tryd.prog w = .ok (.func fn first cap) w := fun _ _ _ _ => rfl
  have HC := Lib.hid hc; have HQ := Lib.hid hQ
  clear hc hQ
  go_enter_defers Tryd.func27, Tryd.ntmps27
  go_wp2_with fail
  refine HC.out.mono ?_
  rintro e w1 ⟨rfl, hq⟩
  have hz := HQ.out w1 hq
  have hc0 : w1.cell? ⟨w.heap.size, 0, none⟩ = some (.bool false) := by unfold World.cell?; rw [hz]; rfl
  have hf0 : w1.frozen? ⟨w.heap.size, 0, none⟩ = false := by unfold World.frozen?; rw [hz]; simp
  have hc1 : (w1.setCell ⟨w.heap.size, 0, none⟩ (.bool b)).cell? ⟨w.heap.size, 0, none⟩ = some (.bool b) := by
    simp [World.setCell, World.cell?, Array.getElem?_modify, hz]
  have HZ := Lib.hid hz; have HC1 := Lib.hid hc1
  clear hz hc1
  go_wp2
  refine leaves_cons (f := 35) (args := #[.pointer (some ⟨w.heap.size, 0, none⟩)]) (by simp) (by simp [go_sem]) ?_
  refine (caught_idle ⟨w.heap.size, 0, none⟩ _).mono ?_
  rintro e u' w'' ⟨rfl, rfl, rfl⟩
  refine ⟨.bool b, ?_, rfl, w1, hq, rfl⟩
  simp [results, Tryd.results27, go_sem, HC1.out]
end Go.Proofs.YtnhligchgcjklaaDoor
