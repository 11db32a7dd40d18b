/-
  Two arrays of two bytes are compared.
-/
import Derived.Test.YtglejgfmdgjijaaSmall
import Derived.ChangeKeysEq
namespace Go.Proofs.Ytglejgfmdgjijaa
open Go.RowKit

theorem two_eql (w : World) (a b c d : Int) : (Op.equalIn 10000 39 (.agg #[.int .u8 a, .int .u8 b]) (.agg #[.int .u8 c, .int .u8 d])).run Try.prog w = .ok (a == c && b == d) w := by
  obtain ⟨i, hi, _⟩ := info_parts kit8.hi
  have hs : Try.prog.cellsOf 5 = 1 := by kernel_rfl
  have e8 := fun (w : World) (a b : Int) => run_equalIn_int (P := Try.prog) w 9998 5 .u8 .u8 a b Try.underlying5
  rw [run_equalIn_array w 9999 _ _ Try.underlying39 hi, hs, show List.range 2 = [0, 1] from rfl]
  have p1 : ∀ (w : World) (x y : Int), (part 5 #[.int .u8 x, .int .u8 y] (0 * 1)).run Try.prog w = .ok (.int .u8 x) w := by
    intro w x y
    simp [part, go_sem]
  have p2 : ∀ (w : World) (x y : Int), (part 5 #[.int .u8 x, .int .u8 y] (1 * 1)).run Try.prog w = .ok (.int .u8 y) w := by
    intro w x y
    simp [part, go_sem]
  simp only [Op.eqItems, Sem.run_bind, p1, p2, Result.andThen_ok, e8, Sem.run_ite, Sem.run_pure]
  cases h1 : (a == c) <;> cases h2 : (b == d) <;> simp
end Go.Proofs.Ytglejgfmdgjijaa
