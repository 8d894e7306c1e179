/- Contract of package prefix: Holds. -/
import Derived.Test.YtpfpkghihpcbkaaPfxC
namespace Go.Proofs.Ytpfpkghihpcbkaa
open Go.RowKit
set_option linter.unusedVariables false
set_option linter.unusedSimpArgs false

set_option maxHeartbeats 1000000 in
theorem holds_any (a b : Nat) (n : Int) (w : World) (ha : (a : Int) ≤ 4294967295) (hb : (b : Int) ≤ 4294967295) :
    Calls Try.prog 42 #[.int .u32 a, .int .i64 n, .int .u32 b] w fun e w' => e = .returned (.bool (holdB a (cl n) b)) ∧ Below w.heap.size w w' := by
  have hl := cl_le n
  go_enter Try.func42, Try.ntmps42
  go_wp2_with fail
  refine (first_any n _).mono ?_
  rintro e w1 ⟨B, rfl, hc, hbel⟩
  have HB := Lib.hid hbel
  clear hbel
  go_wp2_with fail
  refine (bits_any a (cl n) B _ ha hl hc).mono ?_
  rintro e w2 ⟨rfl, rfl⟩
  go_wp2_with fail
  refine (bits_any b (cl n) B _ hb hl hc).mono ?_
  rintro e w2 ⟨rfl, rfl⟩
  go_wp2_with fail
  go_ret
  refine ⟨?_, HB.out⟩
  show Ending.returned (.bool ((loN a (cl n) : Int) == (loN b (cl n) : Int))) = _
  congr 2
  unfold holdB
  rw [Bool.eq_iff_iff, beq_iff_eq, decide_eq_true_iff]
  omega
end Go.Proofs.Ytpfpkghihpcbkaa
