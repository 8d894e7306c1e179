/- The package's table: what the row lists of it gives the walks; a world that holds it. -/
import Derived.Test.YtlobajlodbdeiaaDoorRows
import Derived.Test.YtlobajlodbdeiaaDoorCrc
import Derived.ProofKit
import Derived.Lib.LaidTab
import Derived.LaidMore
namespace Go.Proofs.YtlobajlodbdeiaaDoor
open Go.RowKit Go.WideShapes Go.ChangeShapes
set_option linter.unusedVariables false
set_option linter.unusedSimpArgs false

theorem tab_global : Tryd.prog.globalNamed "theseus/crc.shifted" = some 0 := by kernel_rfl
theorem tab_type : (Tryd.prog.globals[0]?).map (·.type) = some 53 := by kernel_rfl
theorem tab_cells : Tryd.prog.cellsOf 53 = 16 := by kernel_rfl
theorem tab_cell1 : Tryd.prog.cellsOf 23 = 1 := by kernel_rfl
theorem tab_of_laid {W : World} (h : laidMetH Tryd.prog [("theseus/crc.shifted", Rows.laid_theseus_crc_shifted)] W) : Tab W := by
  have ht : Lib.TabIs Tryd.prog W "theseus/crc.shifted" .u32 ((List.range 16).map fun k => ((hfs 4 k : Nat) : Int)) := by
    refine Lib.tabIs_of_head (rest := []) tab_global tab_type Tryd.underlying53 Tryd.underlying23 tab_cell1 tab_cells ?_
    exact h
  intro k hk
  have := ht.cell tab_global k (by simpa using hk)
  rw [show ((List.range 16).map fun k => ((hfs 4 k : Nat) : Int)).getD k 0 = ((hfs 4 k : Nat) : Int) from by simp [List.getElem?_range hk]] at this
  exact this
noncomputable def laidWorld (os : Os) : World :=
  { World.holding Tryd.prog os ⟨#[], #[], []⟩ with heap := (World.holding Tryd.prog os ⟨#[], #[], []⟩).heap.modify 0 fun
      | .cells _ t frozen => .cells ((List.range 16).map fun k => Value.int .u32 ((hfs 4 k : Nat) : Int)).toArray t frozen
      | o => o }
theorem laid_met (os : Os) (args : Array Value) : laidMet Tryd.prog [("theseus/crc.shifted", Rows.laid_theseus_crc_shifted)] ((laidWorld os).forCall (fun _ _ => 0) ⟨#[], args, []⟩).memory :=
  laidMet_of_run' 8 (by kernel_rfl) (by kernel_rfl)
end Go.Proofs.YtlobajlodbdeiaaDoor
