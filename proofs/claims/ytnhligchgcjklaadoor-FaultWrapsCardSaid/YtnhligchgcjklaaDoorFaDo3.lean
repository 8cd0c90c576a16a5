/- Place, Index. -/
import Derived.Test.YtnhligchgcjklaaDoorFaDo2
namespace Go.Proofs.YtnhligchgcjklaaDoor
open Go.RowKit Go.Extern.Stop Go.Stop Go.Extern Go.Shelf
theorem asEnd_bool {k : Bool} {l : List (Bool × Int × Nat)} {t : Addr} {w w' : World} {e : Ending} (h : AsEnd k l t w e w') : ∃ b, e = .returned (.bool b) := by
  unfold AsEnd at h
  split at h
  · exact ⟨_, h.1⟩
  · exact ⟨_, h.1⟩
/-- A search by errors.As that finds nothing. -/
theorem finds_no {K : FuncId} {k : Bool} {l : List (Bool × Int × Nat)} {pe pt : Addr} {w : World} (hE : ∀ args w, (callFunc K args).run Tryd.prog w = .ok (.enter K args) w) (hf : firstOf k l = none)
    (hc : Calls Tryd.prog K #[.pointer (some pe), .pointer (some pt)] (w.alloc (.cells #[.bool false] 4)) (AsEnd k l pt (w.alloc (.cells #[.bool false] 4)))) :
    Calls Tryd.prog 27 #[.func (.func K) #[] #[.pointer (some pe), .pointer (some pt)]] w fun e w' => e = .returned (.bool false) ∧ Below w.heap.size w w' := by
  refine (finds_of K #[] _ false w (fun w1 => Below (w.heap.size + 1) (w.alloc (.cells #[.bool false] 4)) w1) hE (fun w1 h => (h.block _ (Nat.lt_succ_self _)).trans (heap_alloc_new _ _)) ?_).mono ?_
  · refine hc.mono fun e w' h => ?_
    have h := asEnd_no hf h
    rw [show (w.alloc (.cells #[.bool false] 4)).heap.size = w.heap.size + 1 by simp] at h
    exact h
  · rintro e w' ⟨rfl, w1, hb, rfl⟩
    exact ⟨rfl, (((Below.refl _ _).alloc (Nat.le_refl _) _).trans (hb.mono (Nat.le_succ _))).setCell (Nat.le_refl _) _⟩
/-- A search by errors.As that finds one. -/
theorem finds_yes {K : FuncId} {k : Bool} {l : List (Bool × Int × Nat)} {x : Int × Nat} {pe : Addr} {pt : Nat} {T : TypeId} {w : World} (hE : ∀ args w, (callFunc K args).run Tryd.prog w = .ok (.enter K args) w) (hf : firstOf k l = some x) (hpt : pt < w.heap.size)
    (hz : w.heap[pt]? = some (.cells #[.pointer none] T))
    (hc : Calls Tryd.prog K #[.pointer (some pe), .pointer (some ⟨pt, 0, none⟩)] (w.alloc (.cells #[.bool false] 4)) (AsEnd k l ⟨pt, 0, none⟩ (w.alloc (.cells #[.bool false] 4)))) :
    Calls Tryd.prog 27 #[.func (.func K) #[] #[.pointer (some pe), .pointer (some ⟨pt, 0, none⟩)]] w fun e w' => e = .returned (.bool true) ∧ Below pt w w' ∧ w'.cell? ⟨pt, 0, none⟩ = some (.pointer (some ⟨x.2, 0, none⟩)) := by
  have hne : w.heap.size ≠ pt := by omega
  refine (finds_of K #[] _ true w (fun w1 => ∃ w2, Below (w.heap.size + 1) (w.alloc (.cells #[.bool false] 4)) w2 ∧ w1 = w2.setCell ⟨pt, 0, none⟩ (.pointer (some ⟨x.2, 0, none⟩))) hE ?_ ?_).mono ?_
  · rintro w1 ⟨w2, h, rfl⟩
    rw [Below.heap_setCell _ _ _ _ hne]
    exact (h.block _ (Nat.lt_succ_self _)).trans (heap_alloc_new _ _)
  · refine hc.mono fun e w' h => ?_
    have h := asEnd_yes hf h
    rw [show (w.alloc (.cells #[.bool false] 4)).heap.size = w.heap.size + 1 by simp] at h
    exact h
  · rintro e w' ⟨rfl, w1, ⟨w2, hb, rfl⟩, rfl⟩
    have hb2 := ((Below.refl w.heap.size w).alloc (Nat.le_refl _) (.cells #[.bool false] 4)).trans (hb.mono (Nat.le_succ _))
    refine ⟨rfl, ((hb2.mono (Nat.le_of_lt hpt)).setCell (Nat.le_refl _) _).setCell (Nat.le_of_lt hpt) _, ?_⟩
    have z2 := keep_blk hb2 hz
    simp [World.setCell, World.cell?, Array.getElem?_modify, z2, hne]
theorem Tryd.entersPlace : ∀ args w, (callFunc 32 args).run Tryd.prog w = .ok (.enter 32 args) w := enters_of Tryd.func32 (by kernel_rfl) rfl
theorem place1_any (pe pt : Addr) (t : TypeId) (q : Value) (w : World) (R : Ending → World → Prop) (h0 : w.cell? pe = some (.iface t q))
    (has : Calls Tryd.prog 33 #[.iface t q, .iface 51 (.pointer (some pt))] w R) (hR : ∀ e w', R e w' → ∃ b, e = .returned (.bool b)) :
    Calls Tryd.prog 32 #[.pointer (some pe), .pointer (some pt)] w R := by
  have HAS := Lib.hid has; have HR := Lib.hid hR
  clear has hR
  go_enter Tryd.func32, Tryd.ntmps32
  go_wp2_with fail
  refine HAS.out.mono ?_
  intro e w' he
  obtain ⟨b, rfl⟩ := HR.out _ _ he
  go_wp2
  exact he
theorem place1_nil (pe pt : Addr) (w : World) (h0 : w.cell? pe = some .nilIface) :
    Calls Tryd.prog 32 #[.pointer (some pe), .pointer (some pt)] w fun e w' => e = .returned (.bool false) ∧ w = w' := by
  go_enter Tryd.func32, Tryd.ntmps32
  go_wp2_with fail
  refine (as_nil _ _).mono ?_
  rintro e w' ⟨rfl, rfl⟩
  go_wp2
  go_ret
  exact ⟨rfl, rfl⟩
set_option maxRecDepth 100000 in
set_option maxHeartbeats 4000000 in
theorem place_nil (w : World) : Calls Tryd.prog 14 #[.nilIface] w fun e w' => e = .returned (.tuple #[.int .i64 0, .bool false]) ∧ Below w.heap.size w w' := by
  have hmf : ∀ (fn : Fn) (first cap : Array Value) (w : World), (Instr.makeFunc fn first cap).run Tryd.prog w = .ok (.func fn first cap) w := fun _ _ _ _ => rfl
  have hb0 := ((Below.refl w.heap.size w).alloc (Nat.le_refl _) (.cells #[.nilIface] 25)).alloc (by simp) (.cells #[.pointer none] 49)
  have z0 := two_new w (.cells #[.nilIface] 25) (.cells #[.pointer none] 49)
  have hfi := finds_same 32 #[] #[.pointer (some ⟨w.heap.size, 0, none⟩), .pointer (some ⟨w.heap.size + 1, 0, none⟩)] false ((w.alloc (.cells #[.nilIface] 25)).alloc (.cells #[.pointer none] 49)) Tryd.entersPlace (place1_nil _ _ _ (by unfold World.cell?; rw [heap_alloc_lt z0.1]; rfl))
  have HFI := Lib.hid hfi; have HB0 := Lib.hid hb0
  clear hfi hb0 z0
  go_enter Tryd.func14, Tryd.ntmps14
  go_wp2_with fail
  refine HFI.out.mono ?_
  rintro e w1 ⟨rfl, hb1⟩
  have HB1 := Lib.hid (HB0.out.trans (hb1.mono (by simp; omega)))
  clear hb1 HB0 HFI
  go_wp2
  go_ret2
  exact ⟨rfl, HB1.out⟩
set_option maxRecDepth 100000 in
set_option maxHeartbeats 4000000 in
theorem place_any (b : Addr) (l : List (Bool × Int × Nat)) (v : Value) (w : World) (hw : Wrapped w (.iface 63 (.pointer (some b))) l v) (hg : ErrType w) :
    Calls Tryd.prog 14 #[v] w fun e w' => e = .returned (.tuple #[.int .i64 (numO (toldOf false l)), .bool (hasO (toldOf false l))]) ∧ Below w.heap.size w w' := by
  obtain ⟨t, q, rfl⟩ := hw.iface
  have hmf : ∀ (fn : Fn) (first cap : Array Value) (w : World), (Instr.makeFunc fn first cap).run Tryd.prog w = .ok (.func fn first cap) w := fun _ _ _ _ => rfl
  have hb0 := ((Below.refl w.heap.size w).alloc (Nat.le_refl _) (.cells #[.iface t q] 25)).alloc (by simp) (.cells #[.pointer none] 49)
  have z0 := two_new w (.cells #[.iface t q] 25) (.cells #[.pointer none] 49)
  have hb1 := hb0.alloc hb0.size (.cells #[.bool false] 4)
  have HC := Lib.hid (place1_any ⟨w.heap.size, 0, none⟩ ⟨w.heap.size + 1, 0, none⟩ t q (((w.alloc (.cells #[.iface t q] 25)).alloc (.cells #[.pointer none] 49)).alloc (.cells #[.bool false] 4)) _ (by unfold World.cell?; rw [heap_alloc_lt z0.1]; rfl)
    (as_any_F b ⟨w.heap.size + 1, 0, none⟩ l _ _ (hw.later hb1) (hg.later hb1) (.pointer none) (by unfold World.cell?; rw [heap_alloc_lt z0.2]; rfl) (by unfold World.frozen?; rw [heap_alloc_lt z0.2]; simp)) fun _ _ h => asEnd_bool h)
  have HB0 := Lib.hid hb0; have HZ := Lib.hid z0.2; have HW := Lib.hid hw
  clear hb0 z0 hb1 hw hg
  cases hf : firstOf false l with
  | none =>
    have HFI := Lib.hid (finds_no Tryd.entersPlace hf HC.out)
    have HT := Lib.hid (show toldOf false l = none by unfold toldOf; rw [hf]; rfl)
    clear hf HC
    go_enter Tryd.func14, Tryd.ntmps14
    go_wp2_with fail
    refine HFI.out.mono ?_
    rintro e w1 ⟨rfl, hb1⟩
    have HB1 := Lib.hid (HB0.out.trans (hb1.mono (by simp; omega)))
    clear hb1 HB0 HFI
    go_wp2
    go_ret2
    exact ⟨by rw [HT.out]; rfl, HB1.out⟩
  | some x =>
    have hx := HW.out.first hf
    have hlt := block_lt_of_cell hx
    have HFI := Lib.hid (finds_yes Tryd.entersPlace hf (by simp) HZ.out HC.out)
    have HT := Lib.hid (show toldOf false l = some x.1 by unfold toldOf; rw [hf]; rfl)
    obtain ⟨n, p⟩ := x
    have HX := Lib.hid hx; have HLT := Lib.hid hlt
    clear hf HC hx hlt
    go_enter Tryd.func14, Tryd.ntmps14
    go_wp2_with fail
    refine HFI.out.mono ?_
    rintro e w1 ⟨rfl, hb1, c1⟩
    have hb2 := HB0.out.trans (hb1.mono (Nat.le_add_right _ _))
    have c2 : w1.cell? ⟨p, 0, none⟩ = some (.int .i64 n) := (hb2.cell (p := ⟨p, 0, none⟩) HLT.out).trans HX.out
    have HB1 := Lib.hid hb2
    clear hb1 HB0 HFI hb2
    go_wp2
    go_ret2
    exact ⟨by rw [HT.out]; rfl, HB1.out⟩
theorem Tryd.entersIndex : ∀ args w, (callFunc 34 args).run Tryd.prog w = .ok (.enter 34 args) w := enters_of Tryd.func34 (by kernel_rfl) rfl
theorem index1_any (pe pt : Addr) (t : TypeId) (q : Value) (w : World) (R : Ending → World → Prop) (h0 : w.cell? pe = some (.iface t q))
    (has : Calls Tryd.prog 33 #[.iface t q, .iface 55 (.pointer (some pt))] w R) (hR : ∀ e w', R e w' → ∃ b, e = .returned (.bool b)) :
    Calls Tryd.prog 34 #[.pointer (some pe), .pointer (some pt)] w R := by
  have HAS := Lib.hid has; have HR := Lib.hid hR
  clear has hR
  go_enter Tryd.func34, Tryd.ntmps34
  go_wp2_with fail
  refine HAS.out.mono ?_
  intro e w' he
  obtain ⟨b, rfl⟩ := HR.out _ _ he
  go_wp2
  exact he
theorem index1_nil (pe pt : Addr) (w : World) (h0 : w.cell? pe = some .nilIface) :
    Calls Tryd.prog 34 #[.pointer (some pe), .pointer (some pt)] w fun e w' => e = .returned (.bool false) ∧ w = w' := by
  go_enter Tryd.func34, Tryd.ntmps34
  go_wp2_with fail
  refine (as_nil _ _).mono ?_
  rintro e w' ⟨rfl, rfl⟩
  go_wp2
  go_ret
  exact ⟨rfl, rfl⟩
set_option maxRecDepth 100000 in
set_option maxHeartbeats 4000000 in
theorem index_nil (w : World) : Calls Tryd.prog 15 #[.nilIface] w fun e w' => e = .returned (.tuple #[.int .i64 0, .bool false]) ∧ Below w.heap.size w w' := by
  have hmf : ∀ (fn : Fn) (first cap : Array Value) (w : World), (Instr.makeFunc fn first cap).run Tryd.prog w = .ok (.func fn first cap) w := fun _ _ _ _ => rfl
  have hb0 := ((Below.refl w.heap.size w).alloc (Nat.le_refl _) (.cells #[.nilIface] 25)).alloc (by simp) (.cells #[.pointer none] 54)
  have z0 := two_new w (.cells #[.nilIface] 25) (.cells #[.pointer none] 54)
  have hfi := finds_same 34 #[] #[.pointer (some ⟨w.heap.size, 0, none⟩), .pointer (some ⟨w.heap.size + 1, 0, none⟩)] false ((w.alloc (.cells #[.nilIface] 25)).alloc (.cells #[.pointer none] 54)) Tryd.entersIndex (index1_nil _ _ _ (by unfold World.cell?; rw [heap_alloc_lt z0.1]; rfl))
  have HFI := Lib.hid hfi; have HB0 := Lib.hid hb0
  clear hfi hb0 z0
  go_enter Tryd.func15, Tryd.ntmps15
  go_wp2_with fail
  refine HFI.out.mono ?_
  rintro e w1 ⟨rfl, hb1⟩
  have HB1 := Lib.hid (HB0.out.trans (hb1.mono (by simp; omega)))
  clear hb1 HB0 HFI
  go_wp2
  go_ret2
  exact ⟨rfl, HB1.out⟩
set_option maxRecDepth 100000 in
set_option maxHeartbeats 4000000 in
theorem index_any (b : Addr) (l : List (Bool × Int × Nat)) (v : Value) (w : World) (hw : Wrapped w (.iface 63 (.pointer (some b))) l v) (hg : ErrType w) :
    Calls Tryd.prog 15 #[v] w fun e w' => e = .returned (.tuple #[.int .i64 (numO (toldOf true l)), .bool (hasO (toldOf true l))]) ∧ Below w.heap.size w w' := by
  obtain ⟨t, q, rfl⟩ := hw.iface
  have hmf : ∀ (fn : Fn) (first cap : Array Value) (w : World), (Instr.makeFunc fn first cap).run Tryd.prog w = .ok (.func fn first cap) w := fun _ _ _ _ => rfl
  have hb0 := ((Below.refl w.heap.size w).alloc (Nat.le_refl _) (.cells #[.iface t q] 25)).alloc (by simp) (.cells #[.pointer none] 54)
  have z0 := two_new w (.cells #[.iface t q] 25) (.cells #[.pointer none] 54)
  have hb1 := hb0.alloc hb0.size (.cells #[.bool false] 4)
  have HC := Lib.hid (index1_any ⟨w.heap.size, 0, none⟩ ⟨w.heap.size + 1, 0, none⟩ t q (((w.alloc (.cells #[.iface t q] 25)).alloc (.cells #[.pointer none] 54)).alloc (.cells #[.bool false] 4)) _ (by unfold World.cell?; rw [heap_alloc_lt z0.1]; rfl)
    (as_any_L b ⟨w.heap.size + 1, 0, none⟩ l _ _ (hw.later hb1) (hg.later hb1) (.pointer none) (by unfold World.cell?; rw [heap_alloc_lt z0.2]; rfl) (by unfold World.frozen?; rw [heap_alloc_lt z0.2]; simp)) fun _ _ h => asEnd_bool h)
  have HB0 := Lib.hid hb0; have HZ := Lib.hid z0.2; have HW := Lib.hid hw
  clear hb0 z0 hb1 hw hg
  cases hf : firstOf true l with
  | none =>
    have HFI := Lib.hid (finds_no Tryd.entersIndex hf HC.out)
    have HT := Lib.hid (show toldOf true l = none by unfold toldOf; rw [hf]; rfl)
    clear hf HC
    go_enter Tryd.func15, Tryd.ntmps15
    go_wp2_with fail
    refine HFI.out.mono ?_
    rintro e w1 ⟨rfl, hb1⟩
    have HB1 := Lib.hid (HB0.out.trans (hb1.mono (by simp; omega)))
    clear hb1 HB0 HFI
    go_wp2
    go_ret2
    exact ⟨by rw [HT.out]; rfl, HB1.out⟩
  | some x =>
    have hx := HW.out.first hf
    have hlt := block_lt_of_cell hx
    have HFI := Lib.hid (finds_yes Tryd.entersIndex hf (by simp) HZ.out HC.out)
    have HT := Lib.hid (show toldOf true l = some x.1 by unfold toldOf; rw [hf]; rfl)
    obtain ⟨n, p⟩ := x
    have HX := Lib.hid hx; have HLT := Lib.hid hlt
    clear hf HC hx hlt
    go_enter Tryd.func15, Tryd.ntmps15
    go_wp2_with fail
    refine HFI.out.mono ?_
    rintro e w1 ⟨rfl, hb1, c1⟩
    have hb2 := HB0.out.trans (hb1.mono (Nat.le_add_right _ _))
    have c2 : w1.cell? ⟨p, 0, none⟩ = some (.int .i64 n) := (hb2.cell (p := ⟨p, 0, none⟩) HLT.out).trans HX.out
    have HB1 := Lib.hid hb2
    clear hb1 HB0 HFI hb2
    go_wp2
    go_ret2
    exact ⟨by rw [HT.out]; rfl, HB1.out⟩
end Go.Proofs.YtnhligchgcjklaaDoor
