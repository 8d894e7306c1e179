/- The iterator of package network (passed's function literal): its contract, whatever goes round. -/
import Derived.Test.YtpfpkghihpcbkaaNet
import Derived.Test.YtpfpkghihpcbkaaSeq
import Derived.Test.YtpfpkghihpcbkaaTop
import Derived.RangeFuncBound
import Derived.Shelf.Abstract
import Derived.Shelf.RegionOpen
import Derived.WalkKit
import Derived.OwnWalkIn
import Derived.TacticsInMore
import Derived.LoopNIn
import Derived.LoopIn
namespace Go.Proofs.Ytpfpkghihpcbkaa
open Go.RowKit
set_option linter.unusedVariables false
set_option linter.unusedSimpArgs false
theorem wide_depth : Fence.wide.depth.isSome = false := rfl
theorem wide_fn (f : FuncId) : Fence.wide.fn f = True := rfl
attribute [local go_sem] Oper.semAt_some wide_depth

/-- what the iterator reads -/
structure Reads (bv bn ba : Nat) (A : Option Addr) (n c : Nat) (N : Nt) (a : Nat) (u : Int) (W : World) : Prop where
  cv : W.cell? ⟨bv, 0, none⟩ = some (.int .i64 u)
  cn : W.cell? ⟨bn, 0, none⟩ = some (.slice A n c)
  ca : W.cell? ⟨ba, 0, none⟩ = some (.int .u32 (a : Int))
  is : IsN W (.agg #[.slice A n c]) N

/-- the k-th number that is passed, as the loop's slots hold it -/
def Pas (N : Nt) (a : Nat) (u : Int) (k : Nat) (y b : Value) : Prop := y = .int .i64 (resO (itN N a k u)).1 ∧ b = .bool (resO (itN N a k u)).2

set_option maxRecDepth 100000 in
set_option maxHeartbeats 2000000 in
theorem seq_gives (bv bn ba : Nat) (A : Option Addr) (n c : Nat) (N : Nt) (a : Nat) (u : Int) (M d : Nat) (ha : (a : Int) ≤ 4294967295) (hwf : WfN N) :
    Gives Fence.wide d Try.prog 40 #[.pointer (some ⟨bv, 0, none⟩), .pointer (some ⟨bn, 0, none⟩), .pointer (some ⟨ba, 0, none⟩)] (fun k => itN N a k u) M (Reads bv bn ba A n c N a u) := by
  intro l J Jx W hJ hR hY h0
  have HJ := Lib.hid hJ
  have HR := Lib.hid hR
  have HY := Lib.hid hY
  have HW := Lib.hid hwf
  obtain ⟨_, hr⟩ := hR 0 W h0
  have q1 := hr.cv
  have H0 := Lib.hid h0
  clear hJ hR hY hr hwf h0
  refine callsIn_of_wp Try.func40 rfl trivial ?_
  simp only [Try.ntmps40, List.size_toArray, List.length_cons, List.length_nil, Nat.reduceAdd, Nat.reduceSub, Array.replicate_succ, Array.replicate_zero, List.push_toArray, List.append_toArray, List.nil_append, List.cons_append]
  gi_wp2
  clear q1
  gi_loopw [5, 6] (fun y b wr => ∃ k, k ≤ M ∧ Hid (J k wr ∧ Pas N a u k y b)) (fun y b wr => M - top (fun k => J k wr ∧ Pas N a u k y b) M)
  case atStart => exact ⟨0, Nat.zero_le _, H0.out, rfl, rfl⟩
  case round =>
    clear H0
    obtain ⟨k, hk, HP⟩ : ∃ k, k = top (fun k => J k wr ∧ Pas N a u k u5 u6) M ∧ Hid (J k wr ∧ Pas N a u k u5 u6) := ⟨_, rfl, top_is hrel⟩
    have HT := Lib.hid hk
    obtain ⟨hj, h5, h6⟩ := HP.out
    obtain ⟨hkM, hr⟩ := HR.out k wr hj
    have HRD := Lib.hid hr
    have HJ0 := Lib.hid hj
    clear hrel HP hk hj hr
    subst h5 h6
    cases e : itN N a k u with
    | none =>
      simp only [resO_none]
      gi_wp2
      refine ⟨fun _ h => (by cases h), ?_⟩
      gi_wp2
      go_end0
      exact ⟨⟨_, rfl⟩, .inl ⟨k, e, HJ0.out⟩⟩
    | some x =>
      rw [e] at HT
      simp only [resO_some]
      obtain ⟨fn, tmps, assign, body, hy, hRo⟩ := HY.out k x wr HJ0.out e
      gi_wp2
      refine hRo.mono ?_
      rintro e W3 (⟨rfl, hj3⟩ | ⟨rfl, hx3⟩)
      · obtain ⟨hM3, hr3⟩ := HR.out (k + 1) W3 hj3
        have q2 := hr3.cn
        have q3 := hr3.ca
        have CN := Lib.hid (nstep_any (.agg #[.slice A n c]) N a x W3 hr3.is ha HW.out)
        have HS : Hid (itN N a (k + 1) u = stN N a x) := by show _ = _; rw [itN_snoc, e]; rfl
        have HJ3 := Lib.hid hj3
        clear hj3 hr3 e hRo hy
        gi_wp2
        refine ⟨trivial, (callsIn_wide.2 CN.out).mono ?_⟩
        rintro e4 W4 ⟨rfl, hb⟩
        have HJ4 := Lib.hid (HJ.out _ _ _ HJ3.out hb)
        clear hb q2 q3 CN
        gi_wp2
        go_roundw
        case rel => exact ⟨k + 1, hM3, HJ4.out, by rw [HS.out], by rw [HS.out]⟩
        case measure => exact top_falls HT.out ⟨HJ4.out, by rw [HS.out], by rw [HS.out]⟩ hM3
      · gi_wp2
        go_end0
        exact ⟨⟨_, rfl⟩, .inr hx3⟩
end Go.Proofs.Ytpfpkghihpcbkaa
