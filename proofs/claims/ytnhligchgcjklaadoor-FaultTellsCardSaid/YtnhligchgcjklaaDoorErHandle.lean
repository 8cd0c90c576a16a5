/- What a listed handle beside listed data gives: package errors' variable of the type error. -/
import Derived.Test.YtnhligchgcjklaaDoorErPlace
import Derived.Test.YtnhligchgcjklaaDoorErAll
import Derived.LaidHandle
import Derived.LaidLaws
namespace Go.Proofs.YtnhligchgcjklaaDoor
open Go.ChangeShapes Go.WideShapes Go.ChangeAt Go.RowKit
theorem laid_split {P : Program} {l : List (String × DataW Unit)} {W : World} (h : laidMetH P l W) : laidMet P (l.filter fun x => x.2.handleName?.isNone) W ∧ handlesMet P (l.filter fun x => x.2.handleName?.isSome) W := by
  unfold laidMetH at h
  generalize hfl : (l.filter fun x => x.2.handleName?.isSome) = fl at h
  cases fl with
  | nil =>
    have e : (l.filter fun x => x.2.handleName?.isNone) = l := by
      rw [List.filter_eq_self]
      intro x hx
      have := List.filter_eq_nil_iff.1 hfl x hx
      cases hh : x.2.handleName? with
      | none => rfl
      | some y => rw [hh] at this; simp at this
    rw [e]
    exact ⟨h, fun x hx => by cases hx⟩
  | cons x r => exact h
theorem Tryd.errorTypeG : Tryd.prog.globalNamed "errors.errorType" = some 22 := by kernel_rfl
theorem Tryd.rtypeT : (Tryd.prog.cutTypes.find? (·.1 == "internal/reflectlite.rtype")).map (·.2) = some 82 := by kernel_rfl
theorem Tryd.errorRow : ((List.range Tryd.prog.types.size).filter fun t => Tryd.prog.rowNamed t [101, 114, 114, 111, 114]) = [25] := by kernel_rfl
theorem Tryd.errorHandle : typeHandle Tryd.prog 25 = .pointer (some ⟨Tryd.prog.globals.size, 25, none⟩) := by kernel_rfl
theorem errtype_of {l : List (String × DataW Unit)} {W : World} (h : handlesMet Tryd.prog l W) (hl : ("errors.errorType", Rows.laid_errors_errorType) ∈ l) : ErrType W := by
  obtain ⟨name, u, ty, e1, e2, e3, e4, e5⟩ := h _ hl
  have en : name = [101, 114, 114, 111, 114] := (Option.some.inj e1).symm
  subst en
  obtain rfl := Option.some.inj (Tryd.rtypeT.symm.trans e2)
  have hm : ty ∈ (List.range Tryd.prog.types.size).filter fun t => Tryd.prog.rowNamed t [101, 114, 114, 111, 114] := List.mem_filter.2 ⟨List.mem_range.2 e3, e4⟩
  rw [Tryd.errorRow] at hm
  obtain rfl := List.mem_singleton.1 hm
  rw [Tryd.errorHandle] at e5
  unfold ErrType
  simpa using World.var?_cell Tryd.errorTypeG e5 0
theorem errList_plain : ∀ x, x ∈ errList → x.2.handleName?.isNone = true := by
  have h : (errList.all fun x => x.2.handleName?.isNone) = true := by kernel_rfl
  intro x hx
  exact List.all_eq_true.1 h x hx
/-- The sentinels and the handle out of one list. -/
theorem errs_handle_of {l : List (String × DataW Unit)} {W : World} (h : laidMetH Tryd.prog l W) (hl : ∀ x, x ∈ errList → x ∈ l) (hh : ("errors.errorType", Rows.laid_errors_errorType) ∈ l) : (∃ A, Errs W A) ∧ ErrType W := by
  obtain ⟨h1, h2⟩ := laid_split h
  exact ⟨errs_of h1 fun x hx => List.mem_filter.2 ⟨hl x hx, errList_plain x hx⟩, errtype_of h2 (List.mem_filter.2 ⟨hh, rfl⟩)⟩
end Go.Proofs.YtnhligchgcjklaaDoor
