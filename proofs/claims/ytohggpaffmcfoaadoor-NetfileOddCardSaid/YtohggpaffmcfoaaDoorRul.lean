/- Contracts of package rule: fields, May, Compare. -/
import Derived.Test.YtohggpaffmcfoaaDoorPfxC
import Derived.Test.YtohggpaffmcfoaaDoorLow
import Derived.Test.YtohggpaffmcfoaaDoorMath
import Derived.Lib.SmallJoins
namespace Go.Proofs.YtohggpaffmcfoaaDoor
open Go.RowKit
set_option linter.unusedVariables false
set_option maxRecDepth 100000
set_option linter.unusedSimpArgs false

/-- the row of fields: of how many bytes each is, how it is read, how it is written -/
def fieldCells : Array Value := #[.int .i64 4, .func (.func 65) #[] #[], .func (.func 66) #[] #[], .int .i64 1, .func (.func 67) #[] #[], .func (.func 68) #[] #[], .int .i64 1, .func (.func 69) #[] #[], .func (.func 70) #[] #[], .int .i64 2, .func (.func 71) #[] #[], .func (.func 72) #[] #[]]
theorem fields_any (w : World) : Calls Tryd.prog 42 #[] w fun e w' => e = .returned (.slice (some ⟨w.heap.size, 0, none⟩) 4 4) ∧ w.alloc (.cells fieldCells 73) = w' := by
  go_enter Tryd.func42, Tryd.ntmps42
  go_wp2
  go_ret
  exact ⟨rfl, rfl⟩
theorem get1_any (a : Nat) (l c n : Int) (w : World) (ha : (a : Int) ≤ 4294967295) : Calls Tryd.prog 65 #[.agg #[.int .u32 a, .int .i64 l, .int .i64 c, .int .i64 n]] w fun e w' => e = .returned (.int .i64 a) ∧ Below w.heap.size w w' := by
  go_enter Tryd.func65, Tryd.ntmps65
  go_wp2
  go_ret
  exact ⟨rfl, (Below.refl _ _).alloc (Nat.le_refl _) _⟩
theorem get3_any (a l c n : Int) (w : World) : Calls Tryd.prog 67 #[.agg #[.int .u32 a, .int .i64 l, .int .i64 c, .int .i64 n]] w fun e w' => e = .returned (.int .i64 l) ∧ Below w.heap.size w w' := by
  go_enter Tryd.func67, Tryd.ntmps67
  go_wp2
  go_ret
  exact ⟨rfl, (Below.refl _ _).alloc (Nat.le_refl _) _⟩
theorem get5_any (a l c n : Int) (w : World) : Calls Tryd.prog 69 #[.agg #[.int .u32 a, .int .i64 l, .int .i64 c, .int .i64 n]] w fun e w' => e = .returned (.int .i64 c) ∧ Below w.heap.size w w' := by
  go_enter Tryd.func69, Tryd.ntmps69
  go_wp2
  go_ret
  exact ⟨rfl, (Below.refl _ _).alloc (Nat.le_refl _) _⟩
theorem get7_any (a l c n : Int) (w : World) : Calls Tryd.prog 71 #[.agg #[.int .u32 a, .int .i64 l, .int .i64 c, .int .i64 n]] w fun e w' => e = .returned (.int .i64 n) ∧ Below w.heap.size w w' := by
  go_enter Tryd.func71, Tryd.ntmps71
  go_wp2
  go_ret
  exact ⟨rfl, (Below.refl _ _).alloc (Nat.le_refl _) _⟩
theorem set2_any (g : Nat) (x y : Nat) (l c n : Int) (w : World) (hx : (x : Int) ≤ 4294967295) (hb : w.heap[g]? = some (.cells #[.int .u32 y, .int .i64 l, .int .i64 c, .int .i64 n] 47 (0, 0))) :
    Calls Tryd.prog 66 #[.pointer (some ⟨g, 0, none⟩), .int .i64 x] w fun e w' => e = .returned (.tuple #[]) ∧ w'.heap[g]? = some (.cells #[.int .u32 x, .int .i64 l, .int .i64 c, .int .i64 n] 47 (0, 0)) ∧ Below g w w' := by
  have hcell : w.cell? ⟨g, 0, none⟩ = some (.int .u32 y) := by rw [Joins.cell_of_block hb]; rfl
  have hfz : w.frozen? ⟨g, 0, none⟩ = false := Joins.unfrozen_of_block hb 0
  have HB := Lib.hid hb
  clear hb
  go_enter Tryd.func66, Tryd.ntmps66
  go_wp2
  go_end0
  exact ⟨rfl, by rw [Joins.block_setCell HB.out]; rfl, (Below.refl g w).setCell (p := ⟨g, 0, none⟩) (Nat.le_refl g) _⟩
theorem set4_any (g : Nat) (x y : Nat) (l c n : Int) (w : World) (hx : (x : Int) ≤ 4294967295) (hb : w.heap[g]? = some (.cells #[.int .u32 y, .int .i64 l, .int .i64 c, .int .i64 n] 47 (0, 0))) :
    Calls Tryd.prog 68 #[.pointer (some ⟨g, 0, none⟩), .int .i64 x] w fun e w' => e = .returned (.tuple #[]) ∧ w'.heap[g]? = some (.cells #[.int .u32 y, .int .i64 x, .int .i64 c, .int .i64 n] 47 (0, 0)) ∧ Below g w w' := by
  have hcell : w.cell? ⟨g, 1, none⟩ = some (.int .i64 l) := by rw [Joins.cell_of_block hb]; rfl
  have hfz : w.frozen? ⟨g, 1, none⟩ = false := Joins.unfrozen_of_block hb 1
  have HB := Lib.hid hb
  clear hb
  go_enter Tryd.func68, Tryd.ntmps68
  go_wp2
  go_end0
  exact ⟨rfl, by rw [Joins.block_setCell HB.out]; rfl, (Below.refl g w).setCell (p := ⟨g, 1, none⟩) (Nat.le_refl g) _⟩
theorem set6_any (g : Nat) (x y : Nat) (l c n : Int) (w : World) (hx : (x : Int) ≤ 4294967295) (hb : w.heap[g]? = some (.cells #[.int .u32 y, .int .i64 l, .int .i64 c, .int .i64 n] 47 (0, 0))) :
    Calls Tryd.prog 70 #[.pointer (some ⟨g, 0, none⟩), .int .i64 x] w fun e w' => e = .returned (.tuple #[]) ∧ w'.heap[g]? = some (.cells #[.int .u32 y, .int .i64 l, .int .i64 x, .int .i64 n] 47 (0, 0)) ∧ Below g w w' := by
  have hcell : w.cell? ⟨g, 2, none⟩ = some (.int .i64 c) := by rw [Joins.cell_of_block hb]; rfl
  have hfz : w.frozen? ⟨g, 2, none⟩ = false := Joins.unfrozen_of_block hb 2
  have HB := Lib.hid hb
  clear hb
  go_enter Tryd.func70, Tryd.ntmps70
  go_wp2
  go_end0
  exact ⟨rfl, by rw [Joins.block_setCell HB.out]; rfl, (Below.refl g w).setCell (p := ⟨g, 2, none⟩) (Nat.le_refl g) _⟩
theorem set8_any (g : Nat) (x y : Nat) (l c n : Int) (w : World) (hx : (x : Int) ≤ 4294967295) (hb : w.heap[g]? = some (.cells #[.int .u32 y, .int .i64 l, .int .i64 c, .int .i64 n] 47 (0, 0))) :
    Calls Tryd.prog 72 #[.pointer (some ⟨g, 0, none⟩), .int .i64 x] w fun e w' => e = .returned (.tuple #[]) ∧ w'.heap[g]? = some (.cells #[.int .u32 y, .int .i64 l, .int .i64 c, .int .i64 x] 47 (0, 0)) ∧ Below g w w' := by
  have hcell : w.cell? ⟨g, 3, none⟩ = some (.int .i64 n) := by rw [Joins.cell_of_block hb]; rfl
  have hfz : w.frozen? ⟨g, 3, none⟩ = false := Joins.unfrozen_of_block hb 3
  have HB := Lib.hid hb
  clear hb
  go_enter Tryd.func72, Tryd.ntmps72
  go_wp2
  go_end0
  exact ⟨rfl, by rw [Joins.block_setCell HB.out]; rfl, (Below.refl g w).setCell (p := ⟨g, 3, none⟩) (Nat.le_refl g) _⟩
end Go.Proofs.YtohggpaffmcfoaaDoor
