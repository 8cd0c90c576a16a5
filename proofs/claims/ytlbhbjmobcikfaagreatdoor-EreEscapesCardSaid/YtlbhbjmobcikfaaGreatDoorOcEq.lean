/- Two sets held against each other. -/
import Derived.Test.YtlbhbjmobcikfaaGreatDoorOcWalks2
namespace Go.Proofs.YtlbhbjmobcikfaaGreatDoor
open Go.RowKit
theorem part0 (a b c d : Value) (w : World) : (Go.part 23 #[a, b, c, d] 0).run Tryz.prog w = .ok a w := by kernel_rfl
theorem part1 (a b c d : Value) (w : World) : (Go.part 23 #[a, b, c, d] 1).run Tryz.prog w = .ok b w := by kernel_rfl
theorem part2 (a b c d : Value) (w : World) : (Go.part 23 #[a, b, c, d] 2).run Tryz.prog w = .ok c w := by kernel_rfl
theorem part3 (a b c d : Value) (w : World) : (Go.part 23 #[a, b, c, d] 3).run Tryz.prog w = .ok d w := by kernel_rfl
theorem eqi (a b : Int) (w : World) : (Op.equalIn 9999 23 (.int .u64 a) (.int .u64 b)).run Tryz.prog w = .ok (a == b) w := run_equalIn_int w 9998 23 .u64 .u64 a b Tryz.underlying23
theorem eq4 (a b c d a' b' c' d' : Int) (w : World) : (Op.equalIn 10000 25 (.agg #[.int .u64 a, .int .u64 b, .int .u64 c, .int .u64 d]) (.agg #[.int .u64 a', .int .u64 b', .int .u64 c', .int .u64 d'])).run Tryz.prog w = .ok (a == a' && (b == b' && (c == c' && d == d'))) w := by
  have h0 := run_underlying (P := Tryz.prog) (w := w) Tryz.underlying25
  unfold Op.equalIn
  simp only [Sem.run_bind, h0, Result.andThen_ok]
  simp
  rw [show List.range' 0 4 = [0, 1, 2, 3] from rfl]
  simp only [List.forIn_cons, List.forIn_nil, Sem.run_bind, part0, eqi, Result.andThen_ok]
  by_cases h1 : a = a'
  · by_cases h2 : b = b'
    · by_cases h3 : c = c'
      · by_cases h4 : d = d' <;> simp [h1, h2, h3, h4, part1, part2, part3, eqi]
      · simp [h1, h2, h3, part1, part2, eqi]
    · simp [h1, h2, part1, eqi]
  · simp [h1]
end Go.Proofs.YtlbhbjmobcikfaaGreatDoor
