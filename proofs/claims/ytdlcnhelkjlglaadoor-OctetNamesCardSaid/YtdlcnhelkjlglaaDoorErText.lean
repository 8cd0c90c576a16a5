/- Error of a sentinel, of a Fault and a Listed around it; the sentinels' words. -/
import Derived.Test.YtdlcnhelkjlglaaDoorErSent
namespace Go.Proofs.YtdlcnhelkjlglaaDoor
open Go.RowKit Go.Extern.Stop Go.Stop Go.Extern
theorem run_neq_iface_ptr_same {P : Program} (w : World) {ti tp te : TypeId} {ms : Array (String × TypeId)} {i j : TypeInfo} (a : Addr)
    (hi : P.underlying ti = some (.interface ms)) (hp : P.underlying tp = some (.pointer te)) (hinfo : P.info? tp = some i) (hcomp : i.comparable = true) (hte : P.info? te = some j) :
    (binOp .neq ti (.iface tp (.pointer (some a))) (.iface tp (.pointer (some a)))).run P w = .ok (.bool false) w := by
  simp only [binOp]
  simp [Op.equal, Op.maxDepth, run_equalIn_iface_ptr_same w 9998 a hi hp hinfo hcomp hte]
theorem Tryd.methodErrorE (n : Nat) (v : Value) (w : World) : (Go.method (n + 1) 85 v "Error").run Tryd.prog w = .ok (67, v) w := by kernel_rfl
theorem Tryd.methodErrorF (n : Nat) (v : Value) (w : World) : (Go.method (n + 1) 61 v "Error").run Tryd.prog w = .ok (53, v) w := by kernel_rfl
theorem error_text (a : Addr) (s : ByteArray) (w : World) (h : w.cell? a = some (.string s)) :
    Calls Tryd.prog 67 #[.pointer (some a)] w fun e w' => e = .returned (.string s) ∧ w = w' := by
  have h0 : w.cell? (a.add 0) = some (.string s) := by simpa [Addr.add] using h
  go_enter Tryd.func67, Tryd.ntmps67
  go_wp2
  go_ret
  exact ⟨rfl, rfl⟩
theorem fault_text (p : Nat) (a : Addr) (s : ByteArray) (w : World) (h : w.cell? ⟨p, 1, none⟩ = some (.iface 85 (.pointer (some a)))) (hs : w.cell? a = some (.string s)) :
    Calls Tryd.prog 53 #[.pointer (some ⟨p, 0, none⟩)] w fun e w' => e = .returned (.string s) ∧ w = w' := by
  have mE := Tryd.methodErrorE
  have HS := Lib.hid hs
  clear hs
  go_enter Tryd.func53, Tryd.ntmps53
  go_wp2_with (go_at_call 67; refine (error_text a s _ HS.out).mono ?_; rintro e w' ⟨rfl, rfl⟩)
  go_ret
  exact ⟨rfl, rfl⟩
theorem listed_text (q p : Nat) (a : Addr) (s : ByteArray) (w : World) (h2 : w.cell? ⟨q, 1, none⟩ = some (.iface 61 (.pointer (some ⟨p, 0, none⟩)))) (h : w.cell? ⟨p, 1, none⟩ = some (.iface 85 (.pointer (some a)))) (hs : w.cell? a = some (.string s)) :
    Calls Tryd.prog 32 #[.pointer (some ⟨q, 0, none⟩)] w fun e w' => e = .returned (.string s) ∧ w = w' := by
  have mE := Tryd.methodErrorF
  have HS := Lib.hid hs
  have H := Lib.hid h
  clear hs h
  go_enter Tryd.func32, Tryd.ntmps32
  go_wp2_with (go_at_call 53; refine (fault_text p a s _ H.out HS.out).mono ?_; rintro e w' ⟨rfl, rfl⟩)
  go_ret
  exact ⟨rfl, rfl⟩
end Go.Proofs.YtdlcnhelkjlglaaDoor
