/- A rule in its block, and as a result by value. No function of the program is named here. -/
import Derived.Test.YtohggpaffmcfoaaDoorBase
import Derived.Lib.SmallJoins
import Derived.Laws.ResultCell
import Derived.Laws.Rows
namespace Go.Proofs.YtohggpaffmcfoaaDoor
open Go.RowKit
set_option linter.unusedVariables false
set_option maxRecDepth 100000
set_option linter.unusedSimpArgs false

/-- a rule in its block -/
def rcs (a l c n : Int) : Array Value := #[.int .u32 a, .int .i64 l, .int .i64 c, .int .i64 n]
theorem results_rule {fn : Func} {p u : Tmp} (h : fn.results = #[.cell p 47, .tmp u]) (tmps : Array Value) (w : World) (g : Nat) (a l c n : Int)
    (hp : tmps.getD p undef = .pointer (some ⟨g, 0, none⟩)) (hg : w.heap[g]? = some (.cells (rcs a l c n) 47 (0, 0))) :
    (results fn tmps).run Tryd.prog w = .ok (.tuple #[.agg (rcs a l c n), tmps.getD u undef]) w := by
  have hl := run_loadVar_row (P := Tryd.prog) w g 47 47 (rcs a l c n) (0, 0) _ hg Tryd.underlying47 rfl (by show _ = some 4; kernel_rfl)
  have ha : (asAddr (tmps.getD p undef)).run Tryd.prog w = .ok ⟨g, 0, none⟩ w := by rw [hp]; rfl
  rw [results_cell_tmp h, ha]
  show ((loadVar 47 ⟨g, 0, none⟩).run Tryd.prog w).andThen _ = _
  rw [hl]
  rfl
end Go.Proofs.YtohggpaffmcfoaaDoor
