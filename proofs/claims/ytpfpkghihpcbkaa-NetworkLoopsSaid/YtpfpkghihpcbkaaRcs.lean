/- A rule in its block, and as a result by value. No function of the program is named here. -/
import Derived.Test.YtpfpkghihpcbkaaKit
import Derived.Lib.SmallJoins
import Derived.Laws.ResultCell
import Derived.Laws.Rows
namespace Go.Proofs.Ytpfpkghihpcbkaa
open Go.RowKit
set_option linter.unusedVariables false
set_option linter.unusedSimpArgs false

/-- a rule in its block -/
def rcs (a l c n : Int) : Array Value := #[.int .u32 a, .int .i64 l, .int .i64 c, .int .i64 n]
theorem results_rule {fn : Func} {p u : Tmp} (h : fn.results = #[.cell p 46, .tmp u]) (tmps : Array Value) (w : World) (g : Nat) (a l c n : Int)
    (hp : tmps.getD p undef = .pointer (some ⟨g, 0, none⟩)) (hg : w.heap[g]? = some (.cells (rcs a l c n) 46 (0, 0))) :
    (results fn tmps).run Try.prog w = .ok (.tuple #[.agg (rcs a l c n), tmps.getD u undef]) w := by
  have hl := run_loadVar_row (P := Try.prog) w g 46 46 (rcs a l c n) (0, 0) _ hg Try.underlying46 rfl (by show _ = some 4; kernel_rfl)
  have ha : (asAddr (tmps.getD p undef)).run Try.prog w = .ok ⟨g, 0, none⟩ w := by rw [hp]; rfl
  rw [results_cell_tmp h, ha]
  show ((loadVar 46 ⟨g, 0, none⟩).run Try.prog w).andThen _ = _
  rw [hl]
  rfl
end Go.Proofs.Ytpfpkghihpcbkaa
