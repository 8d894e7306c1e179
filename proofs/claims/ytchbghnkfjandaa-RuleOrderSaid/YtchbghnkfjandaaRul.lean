/- Contracts of package rule: fields, May, Compare. -/
import Derived.Test.YtchbghnkfjandaaPfxC
import Derived.Test.YtchbghnkfjandaaNum
import Derived.Test.YtchbghnkfjandaaRulMath
import Derived.Lib.SmallJoins
namespace Go.Proofs.Ytchbghnkfjandaa
open Go.RowKit
set_option linter.unusedVariables false
set_option linter.unusedSimpArgs false

/-- the row of fields: of how many bytes each is, how it is read, how it is written -/
def fieldCells : Array Value := #[.int .i64 4, .func (.func 35) #[] #[], .func (.func 36) #[] #[], .int .i64 1, .func (.func 37) #[] #[], .func (.func 38) #[] #[], .int .i64 1, .func (.func 39) #[] #[], .func (.func 40) #[] #[], .int .i64 2, .func (.func 41) #[] #[], .func (.func 42) #[] #[]]
theorem fields_any (w : World) : Calls Try.prog 23 #[] w fun e w' => e = .returned (.slice (some ⟨w.heap.size, 0, none⟩) 4 4) ∧ w.alloc (.cells fieldCells 53) = w' := by
  go_enter Try.func23, Try.ntmps23
  go_wp2
  go_ret
  exact ⟨rfl, rfl⟩
theorem get1_any (a : Nat) (l c n : Int) (w : World) (ha : (a : Int) ≤ 4294967295) : Calls Try.prog 35 #[.agg #[.int .u32 a, .int .i64 l, .int .i64 c, .int .i64 n]] w fun e w' => e = .returned (.int .i64 a) ∧ Below w.heap.size w w' := by
  go_enter Try.func35, Try.ntmps35
  go_wp2
  go_ret
  exact ⟨rfl, (Below.refl _ _).alloc (Nat.le_refl _) _⟩
theorem get3_any (a l c n : Int) (w : World) : Calls Try.prog 37 #[.agg #[.int .u32 a, .int .i64 l, .int .i64 c, .int .i64 n]] w fun e w' => e = .returned (.int .i64 l) ∧ Below w.heap.size w w' := by
  go_enter Try.func37, Try.ntmps37
  go_wp2
  go_ret
  exact ⟨rfl, (Below.refl _ _).alloc (Nat.le_refl _) _⟩
theorem get5_any (a l c n : Int) (w : World) : Calls Try.prog 39 #[.agg #[.int .u32 a, .int .i64 l, .int .i64 c, .int .i64 n]] w fun e w' => e = .returned (.int .i64 c) ∧ Below w.heap.size w w' := by
  go_enter Try.func39, Try.ntmps39
  go_wp2
  go_ret
  exact ⟨rfl, (Below.refl _ _).alloc (Nat.le_refl _) _⟩
theorem get7_any (a l c n : Int) (w : World) : Calls Try.prog 41 #[.agg #[.int .u32 a, .int .i64 l, .int .i64 c, .int .i64 n]] w fun e w' => e = .returned (.int .i64 n) ∧ Below w.heap.size w w' := by
  go_enter Try.func41, Try.ntmps41
  go_wp2
  go_ret
  exact ⟨rfl, (Below.refl _ _).alloc (Nat.le_refl _) _⟩
theorem set2_any (g : Nat) (x y : Nat) (l c n : Int) (w : World) (hx : (x : Int) ≤ 4294967295) (hb : w.heap[g]? = some (.cells #[.int .u32 y, .int .i64 l, .int .i64 c, .int .i64 n] 24 (0, 0))) :
    Calls Try.prog 36 #[.pointer (some ⟨g, 0, none⟩), .int .i64 x] w fun e w' => e = .returned (.tuple #[]) ∧ w'.heap[g]? = some (.cells #[.int .u32 x, .int .i64 l, .int .i64 c, .int .i64 n] 24 (0, 0)) ∧ Below g w w' := by
  have hcell : w.cell? ⟨g, 0, none⟩ = some (.int .u32 y) := by rw [Joins.cell_of_block hb]; rfl
  have hfz : w.frozen? ⟨g, 0, none⟩ = false := Joins.unfrozen_of_block hb 0
  have HB := Lib.hid hb
  clear hb
  go_enter Try.func36, Try.ntmps36
  go_wp2
  go_end0
  exact ⟨rfl, by rw [Joins.block_setCell HB.out]; rfl, (Below.refl g w).setCell (p := ⟨g, 0, none⟩) (Nat.le_refl g) _⟩
theorem set4_any (g : Nat) (x y : Nat) (l c n : Int) (w : World) (hx : (x : Int) ≤ 4294967295) (hb : w.heap[g]? = some (.cells #[.int .u32 y, .int .i64 l, .int .i64 c, .int .i64 n] 24 (0, 0))) :
    Calls Try.prog 38 #[.pointer (some ⟨g, 0, none⟩), .int .i64 x] w fun e w' => e = .returned (.tuple #[]) ∧ w'.heap[g]? = some (.cells #[.int .u32 y, .int .i64 x, .int .i64 c, .int .i64 n] 24 (0, 0)) ∧ Below g w w' := by
  have hcell : w.cell? ⟨g, 1, none⟩ = some (.int .i64 l) := by rw [Joins.cell_of_block hb]; rfl
  have hfz : w.frozen? ⟨g, 1, none⟩ = false := Joins.unfrozen_of_block hb 1
  have HB := Lib.hid hb
  clear hb
  go_enter Try.func38, Try.ntmps38
  go_wp2
  go_end0
  exact ⟨rfl, by rw [Joins.block_setCell HB.out]; rfl, (Below.refl g w).setCell (p := ⟨g, 1, none⟩) (Nat.le_refl g) _⟩
theorem set6_any (g : Nat) (x y : Nat) (l c n : Int) (w : World) (hx : (x : Int) ≤ 4294967295) (hb : w.heap[g]? = some (.cells #[.int .u32 y, .int .i64 l, .int .i64 c, .int .i64 n] 24 (0, 0))) :
    Calls Try.prog 40 #[.pointer (some ⟨g, 0, none⟩), .int .i64 x] w fun e w' => e = .returned (.tuple #[]) ∧ w'.heap[g]? = some (.cells #[.int .u32 y, .int .i64 l, .int .i64 x, .int .i64 n] 24 (0, 0)) ∧ Below g w w' := by
  have hcell : w.cell? ⟨g, 2, none⟩ = some (.int .i64 c) := by rw [Joins.cell_of_block hb]; rfl
  have hfz : w.frozen? ⟨g, 2, none⟩ = false := Joins.unfrozen_of_block hb 2
  have HB := Lib.hid hb
  clear hb
  go_enter Try.func40, Try.ntmps40
  go_wp2
  go_end0
  exact ⟨rfl, by rw [Joins.block_setCell HB.out]; rfl, (Below.refl g w).setCell (p := ⟨g, 2, none⟩) (Nat.le_refl g) _⟩
theorem set8_any (g : Nat) (x y : Nat) (l c n : Int) (w : World) (hx : (x : Int) ≤ 4294967295) (hb : w.heap[g]? = some (.cells #[.int .u32 y, .int .i64 l, .int .i64 c, .int .i64 n] 24 (0, 0))) :
    Calls Try.prog 42 #[.pointer (some ⟨g, 0, none⟩), .int .i64 x] w fun e w' => e = .returned (.tuple #[]) ∧ w'.heap[g]? = some (.cells #[.int .u32 y, .int .i64 l, .int .i64 c, .int .i64 x] 24 (0, 0)) ∧ Below g w w' := by
  have hcell : w.cell? ⟨g, 3, none⟩ = some (.int .i64 n) := by rw [Joins.cell_of_block hb]; rfl
  have hfz : w.frozen? ⟨g, 3, none⟩ = false := Joins.unfrozen_of_block hb 3
  have HB := Lib.hid hb
  clear hb
  go_enter Try.func42, Try.ntmps42
  go_wp2
  go_end0
  exact ⟨rfl, by rw [Joins.block_setCell HB.out]; rfl, (Below.refl g w).setCell (p := ⟨g, 3, none⟩) (Nat.le_refl g) _⟩
end Go.Proofs.Ytchbghnkfjandaa
