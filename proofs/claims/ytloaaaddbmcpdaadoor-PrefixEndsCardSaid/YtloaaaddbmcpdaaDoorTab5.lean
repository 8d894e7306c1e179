/- The library's tables: what the row lists of them gives the walks; a world that holds them. -/
import Derived.Test.YtloaaaddbmcpdaaDoorRows
import Derived.Test.YtloaaaddbmcpdaaDoorPow
import Derived.ProofKit
import Derived.Lib.LaidTab
import Derived.LaidMore
import Derived.Stop.LaidErr
namespace Go.Proofs.YtloaaaddbmcpdaaDoor
open Go.RowKit Go.WideShapes Go.ChangeShapes
set_option linter.unusedVariables false
set_option linter.unusedSimpArgs false

theorem pow_global : Tryd.prog.globalNamed "internal/strconv.uint64pow10" = some 1 := by kernel_rfl
theorem pow_type : (Tryd.prog.globals[1]?).map (·.type) = some 77 := by kernel_rfl
theorem pow_cells : Tryd.prog.cellsOf 77 = 20 := by kernel_rfl
theorem pow_cell1 : Tryd.prog.cellsOf 39 = 1 := by kernel_rfl
/-- the tables that the rows list -/
abbrev laid3 : List (String × DataW Unit) := [("math/bits.deBruijn32tab", Rows.laid_math_bits_deBruijn32tab), ("math/bits.deBruijn64tab", Rows.laid_math_bits_deBruijn64tab), ("internal/strconv.uint64pow10", Rows.laid_internal_strconv_uint64pow10)]
theorem tab_of_laid {W : World} (h : laidMetH Tryd.prog laid3 W) : Tab W := by
  refine Lib.tabIs_of_head (rest := []) pow_global pow_type Tryd.underlying77 Tryd.underlying39 pow_cell1 pow_cells ?_
  have h1 : laidMet Tryd.prog laid3 W := h
  exact h1.tail.tail
def bytes_of (l : List Int) : Array Value := (l.map (Value.int .u8)).toArray
def cells_with (w : World) (g : Nat) (xs : Array Value) : World :=
  { w with heap := w.heap.modify g fun
      | .cells _ t frozen => .cells xs t frozen
      | o => o }
noncomputable def laidWorld (os : Os) : World :=
  cells_with (cells_with (cells_with (World.holding Tryd.prog os ⟨#[], #[], []⟩)
    2 (bytes_of [0, 1, 28, 2, 29, 14, 24, 3, 30, 22, 20, 15, 25, 17, 4, 8, 31, 27, 13, 23, 21, 19, 16, 7, 26, 12, 18, 6, 11, 5, 10, 9]))
    3 (bytes_of [0, 1, 56, 2, 57, 49, 28, 3, 61, 58, 42, 50, 38, 29, 17, 4, 62, 47, 59, 36, 45, 43, 51, 22, 53, 39, 33, 30, 24, 18, 12, 5, 63, 55, 48, 27, 60, 41, 37, 16, 46, 35, 44, 21, 52, 32, 23, 11, 54, 26, 40, 15, 34, 20, 31, 10, 25, 14, 19, 9, 13, 8, 7, 6]))
    1 ((List.range 20).map fun k => Value.int .u64 ((10 ^ k : Nat) : Int)).toArray
theorem laid_met (os : Os) (args : Array Value) : laidMet Tryd.prog laid3 ((laidWorld os).forCall (fun _ _ => 0) ⟨#[], args, []⟩).memory :=
  laidMet_of_run' 8 (by kernel_rfl) (by kernel_rfl)
end Go.Proofs.YtloaaaddbmcpdaaDoor
