/- Contract of package theseusref07: Fit, by its plain function. -/
import Derived.Test.YtohggpaffmcfoaaDoorRef07F
import Derived.Test.YtohggpaffmcfoaaDoorMath
namespace Go.Proofs.YtohggpaffmcfoaaDoor
open Go.RowKit
set_option linter.unusedVariables false
set_option maxRecDepth 100000
set_option linter.unusedSimpArgs false

theorem fitR_any (r : Rl) (m : Nat) (w : World) (ha : (r.at_ : Int) ≤ 4294967295) (hm0 : 1 ≤ (m : Int)) (hm1 : (m : Int) ≤ 512) :
    Calls Tryd.prog 61 #[.agg #[.int .u32 (r.at_ : Int), .int .i64 r.len, .int .i64 r.act, .int .i64 r.nxt], .int .i64 m] w fun e w' =>
      e = .returned (.agg #[.int .u32 ((fitRl m r).at_ : Int), .int .i64 (fitRl m r).len, .int .i64 (fitRl m r).act, .int .i64 (fitRl m r).nxt]) ∧ Below w.heap.size w w' := by
  obtain ⟨p1, q1, k, e1, f1, g1, b1, s1, t1, r1⟩ := fit_num r.len 33 (by omega) (by omega)
  obtain ⟨p2, q2, act, e2, f2, g2, b2, s2, t2, r2⟩ := fit_num r.act 3 (by omega) (by omega)
  obtain ⟨p3, q3, nx, e3, f3, g3, b3, s3, t3, r3⟩ := fit_num r.nxt m (by omega) (by omega)
  have h := fit_walk r.at_ r.len r.act r.nxt m w ha hm0 hm1 p1 p2 p3 q1 q2 q3 k act nx e1 f1 g1 (by omega) r1 e2 f2 g2 (by omega) r2 s2 t2 e3 f3 g3 b3 r3 s3 t3
  have k1 : fitN r.len 33 = (k : Int) := by unfold fitN; rw [e1, f1, g1]
  have k2 : fitN r.act 3 = (act : Int) := by unfold fitN; rw [e2, f2, g2]
  have k3 : fitN r.nxt m = (nx : Int) := by unfold fitN; rw [e3, f3, g3]
  have x1 : (fitRl m r).at_ = loN r.at_ k := by show loN r.at_ (fitN r.len 33).toNat = _; rw [k1, Int.toNat_natCast]
  have x2 : (fitRl m r).len = (k : Int) := k1
  have x3 : (fitRl m r).act = ((if act = 0 then 3 else act : Nat) : Int) := by
    show (if fitN r.act 3 = 0 then 3 else fitN r.act 3) = _
    rw [k2]
    by_cases h0 : act = 0 <;> simp [h0]
  have x4 : (fitRl m r).nxt = ((if act = 1 then nx else 0 : Nat) : Int) := by
    show (if fitN r.act 3 = 1 then fitN r.nxt m else 0) = _
    rw [k2, k3]
    by_cases h0 : act = 1
    · simp [h0]
    · rw [if_neg (by omega), if_neg h0]; rfl
  rw [x1, x2, x3, x4]
  exact h
end Go.Proofs.YtohggpaffmcfoaaDoor
