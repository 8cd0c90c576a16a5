/- What the listed variables give: the sentinels, the type error, the table of the words, the powers of ten. -/
import Derived.Test.YtnhligchgcjklaaDoorFaEnv
import Derived.Test.YtnhligchgcjklaaDoorErHandle
namespace Go.Proofs.YtnhligchgcjklaaDoor
open Go.ChangeShapes Go.WideShapes Go.ChangeAt Go.RowKit
theorem Tryd.gWords : Tryd.prog.globalNamed "trawl/fault.words" = some 21 := by kernel_rfl
theorem Tryd.tWords : (Tryd.prog.globals[21]?).map (·.type) = some 58 := by kernel_rfl
theorem Tryd.cellsText : Tryd.prog.cellsOf 9 = 1 := by kernel_rfl
theorem words_datum {H : Type} : (Rows.laid_trawl_fault_words : DataW H) = .agg ((List.range 22).map fun k => .lit (.string (wordS k).data.toList)) := rfl
theorem words_of_head {W : World} {r : List (String × DataW Unit)} (h : laidMet Tryd.prog (("trawl/fault.words", Rows.laid_trawl_fault_words) :: r) W) :
    ∀ k, k < 22 → W.cell? ⟨21, k, none⟩ = some (.string (wordS k)) := by
  obtain ⟨ps, ⟨g0, t0, cs0, f0, p0, q0, hg0, ht0, hv0, hd0, _, _⟩, _, _⟩ := h
  obtain rfl := Option.some.inj (Tryd.gWords.symm.trans hg0)
  obtain rfl := Option.some.inj (Tryd.tWords.symm.trans ht0)
  obtain ⟨xs, m, rfl, hx, hlen, hn, hel⟩ := DataW.trod_array Tryd.underlying58 hd0
  rw [words_datum] at hx
  simp only [Prod.mk.injEq, DataW.agg.injEq] at hx
  intro j hj
  have h1 := hel j hj
  have hjx : j < xs.length := by omega
  rw [Tryd.cellsText, Nat.mul_one, List.getElem?_eq_getElem hjx] at h1
  obtain ⟨s, hc, hd, -⟩ := DataW.trod_string Tryd.underlying9 h1
  have h2 : ((List.range 22).map fun k => (DataW.lit (.string (wordS k).data.toList) : DataW _))[j]? = some xs[j].1 := by
    rw [hx.1, List.getElem?_map, List.getElem?_eq_getElem hjx]; rfl
  rw [List.getElem?_map, List.getElem?_range hj, hd] at h2
  simp only [Option.map_some, Option.some.injEq, DataW.lit.injEq, Lit.string.injEq] at h2
  have h3 : cs0[j]? = some (.string s) := by
    rw [← Array.getElem?_toList]
    have : (cs0.toList.drop j)[0]? = some (.string s) := by
      have := congrArg (fun l => l[0]?) hc
      simpa [List.getElem?_take] using this
    simpa using this
  have hs : s = wordS j := by
    generalize wordS j = u at *
    cases s; cases u; simp only at h2; rw [Array.toList_inj.1 h2]
  rw [World.var?_cell hg0 hv0 j, h3, hs]
theorem words_of : ∀ {l : List (String × DataW Unit)} {W : World}, laidMet Tryd.prog l W → ("trawl/fault.words", Rows.laid_trawl_fault_words) ∈ l → ∀ k, k < 22 → W.cell? ⟨21, k, none⟩ = some (.string (wordS k))
  | [], _, _, hm => by cases hm
  | x :: l, W, h, hm => by
    rcases List.mem_cons.1 hm with e | hm
    · subst e; exact words_of_head h
    · exact words_of h.tail hm
theorem Tryd.gPow : Tryd.prog.globalNamed "internal/strconv.uint64pow10" = some 23 := by kernel_rfl
theorem Tryd.tPow : (Tryd.prog.globals[23]?).map (·.type) = some 101 := by kernel_rfl
theorem Tryd.cellsU64 : Tryd.prog.cellsOf 95 = 1 := by kernel_rfl
theorem Tryd.cellsPow : Tryd.prog.cellsOf 101 = 20 := by kernel_rfl
theorem pow_datum : (Rows.laid_internal_strconv_uint64pow10 : DataW Unit) = Lib.tabData .u64 Lib.pow10Tab := rfl
theorem pow_of : ∀ {l : List (String × DataW Unit)} {W : World}, laidMet Tryd.prog l W → ("internal/strconv.uint64pow10", Rows.laid_internal_strconv_uint64pow10) ∈ l → Lib.TabIs Tryd.prog W "internal/strconv.uint64pow10" .u64 Lib.pow10Tab
  | [], _, _, hm => by cases hm
  | x :: l, W, h, hm => by
    rcases List.mem_cons.1 hm with e | hm
    · subst e
      rw [pow_datum] at h
      exact Lib.tabIs_of_head Tryd.gPow Tryd.tPow Tryd.underlying101 Tryd.underlying95 Tryd.cellsU64 Tryd.cellsPow h
    · exact pow_of h.tail hm
/-- All that the laws take, out of one list. -/
theorem fault_env_of {l : List (String × DataW Unit)} {W : World} (h : laidMetH Tryd.prog l W) (hl : ∀ x, x ∈ errList → x ∈ l) (hh : ("errors.errorType", Rows.laid_errors_errorType) ∈ l)
    (hw : ("trawl/fault.words", Rows.laid_trawl_fault_words) ∈ l)
    (hp : ("internal/strconv.uint64pow10", Rows.laid_internal_strconv_uint64pow10) ∈ l)
    : (∃ A, Errs W A) ∧ FaEnv W := by
  obtain ⟨h1, h2⟩ := errs_handle_of h hl hh
  have h3 := (laid_split h).1
  exact ⟨h1, {
    ty := h2
    words := words_of h3 (List.mem_filter.2 ⟨hw, rfl⟩)
    pow := pow_of h3 (List.mem_filter.2 ⟨hp, rfl⟩)
    }⟩
end Go.Proofs.YtnhligchgcjklaaDoor
