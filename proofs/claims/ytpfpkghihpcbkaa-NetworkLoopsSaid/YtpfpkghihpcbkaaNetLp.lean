/- Contract of network.Loop. -/
import Derived.Test.YtpfpkghihpcbkaaNetL
namespace Go.Proofs.Ytpfpkghihpcbkaa
open Go.RowKit
set_option linter.unusedVariables false
set_option linter.unusedSimpArgs false

set_option maxHeartbeats 4000000 in
theorem nloop_any (v : Value) (N : Nt) (a : Nat) (w : World) (hv : IsN w v N) (ha : (a : Int) ≤ 4294967295) (hwf : WfN N) (hB : N.length ≤ 1000) :
    Calls Try.prog 12 #[v, .int .u32 (a : Int)] w fun e w' => ∃ u, e = .returned (.tuple #[u, .bool (lpN N a).isSome]) ∧ IsI w' u ((lpN N a).getD []) ∧ Below w.heap.size w w' := by
  obtain ⟨A, c, rfl, hc, hm, hS⟩ := hv.slice
  obtain ⟨n, hn⟩ : ∃ n, N.length = n := ⟨_, rfl⟩
  rw [hn] at hc hS ⊢
  have HB0 : Hid (Below w.heap.size w (w.alloc (.cells #[.slice A n c] 24))) := (Below.refl _ _).alloc (Nat.le_refl _) _
  have HK0 := Lib.hid (Blk.new w #[.slice A n c] 24)
  have CL := Lib.hid (fun wx (hx : Below w.heap.size w wx) => nleast_any (.agg #[.slice A n c]) N a wx (hS.bel hx).mk ha hwf hB)
  have HS1 := Lib.hid hS
  have HW := Lib.hid hwf
  have HNB := Lib.hid hB
  have q0 := HK0.out.cell 0 rfl
  clear hv hS hn hc hm hwf hB
  go_enter Try.func12, Try.ntmps12
  go_wp2_with fail
  refine (CL.out _ HB0.out).mono ?_
  rintro e1 w1 ⟨o, L, hsc, rfl, hb⟩
  have HB1 := Lib.hid (HB0.out.trans (hb.mono HB0.out.size))
  have HK1 := Lib.hid (HK0.out.bel hb)
  clear q0 hb CL HK0 HB0
  have q0 := HK1.out.cell 0 rfl
  rcases hsc.all with ⟨rfl, he⟩ | ⟨u, K, rfl, hu, hK, hF, he⟩
  · have HE := Lib.hid he
    clear he hsc
    go_wp2_with fail
    go_ret2
    exact ⟨_, by rw [HE.out]; rfl, by rw [HE.out]; exact IsI.nil_ _, HB1.out⟩
  · have HE := Lib.hid he
    have CA := Lib.hid (naround_any (.agg #[.slice A n c]) N a u K w1 (HS1.out.bel HB1.out).mk ha HW.out hF (by have := HNB.out; omega))
    clear he hsc hu hK hF
    go_wp2_with fail
    refine CA.out.mono ?_
    rintro e2 w2 ⟨z, rfl, hz, hb2⟩
    have HB2 := Lib.hid (HB1.out.trans (hb2.mono HB1.out.size))
    have HZ := Lib.hid hz
    clear hz hb2 CA q0
    go_wp2_with fail
    go_ret2
    exact ⟨_, by rw [HE.out]; rfl, by rw [HE.out]; exact HZ.out, HB2.out⟩
end Go.Proofs.Ytpfpkghihpcbkaa
