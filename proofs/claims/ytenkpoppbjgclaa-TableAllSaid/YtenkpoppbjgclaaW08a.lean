/- The walk of theseuslaw08.TableAll. -/
import Derived.Test.YtenkpoppbjgclaaL08
import Derived.Test.YtenkpoppbjgclaaRef08
import Derived.Test.YtenkpoppbjgclaaRef08f
import Derived.Test.YtenkpoppbjgclaaBlk
import Derived.Deep.DeepCutAuto
namespace Go.Proofs.Ytenkpoppbjgclaa
open Go.RowKit
set_option linter.unusedVariables false
set_option linter.unusedSimpArgs false

set_option maxRecDepth 100000 in
set_option maxHeartbeats 4000000 in
theorem walkTableAll (a0 : Option Addr) (n0 c0 : Nat) (l0 : List Rl) (a1 : Int) (a2 : Int) (w : World) (w0 : InR w a0 n0 c0 l0) (w1 : (Lit.int .i64 a1).wf = true) (w2 : (Lit.int .u32 a2).wf = true) :
    Calls Try.prog 3 #[.slice a0 n0 c0, .int .i64 a1, .int .u32 a2] w fun e w' => e = .returned (.bool true) ∧ Below w.heap.size w w' := by
  obtain ⟨hl2, hh2⟩ := bounds_u32 w2
  obtain ⟨a, rfl⟩ := Int.eq_ofNat_of_zero_le hl2
  have ha : (a : Int) ≤ 4294967295 := by omega
  clear w2 hl2 hh2
  have w3 := w0.first 30
  have FW := Lib.hid (fun w => few8 a0 n0 c0 w w0.cap w0.max)
  have hat := w3.at_
  have VR := Lib.hid w3.isr
  obtain ⟨N, hN⟩ : ∃ N, min n0 30 = N := ⟨_, rfl⟩
  rw [hN] at VR FW
  generalize l0.take 30 = L at *
  have F1 := Lib.hid (fun w hv => tfind_any (.slice a0 N c0) L a w hv ha hat)
  have F2 : Hid (∀ w, IsR w (.slice a0 N c0) L → Calls Try.prog 13 #[.slice a0 N c0, .int .u32 (a : Int)] w fun e w' => e = .returned (.tuple #[.agg #[.int .u32 ((foundR (findF L a)).at_ : Int), .int .i64 (foundR (findF L a)).len, .int .i64 (foundR (findF L a)).act, .int .i64 (foundR (findF L a)).nxt], .bool (findF L a).isSome]) ∧ Below w.heap.size w w') := fun w hv => rfindT_any (.slice a0 N c0) L a w hv ha hat
  have X1 := Lib.hid (fun w hv => tnext_any (.slice a0 N c0) L a w hv ha hat)
  have X2 := Lib.hid (fun w hv => rnextT_any (.slice a0 N c0) L a w hv ha hat)
  have M1 := Lib.hid (fun w hv => tmay_any (.slice a0 N c0) L a1 w hv hat)
  have M2 := Lib.hid (fun w hv => rmayT_any (.slice a0 N c0) L a1 w hv hat)
  generalize (foundR (findF L a)).at_ = r0 at *
  generalize (foundR (findF L a)).len = r1 at *
  generalize (foundR (findF L a)).act = r2 at *
  generalize (foundR (findF L a)).nxt = r3 at *
  generalize (findF L a).isSome = ok at *
  generalize (nextT (findF L a)).1 = nx at *
  generalize (nextT (findF L a)).2 = tt at *
  generalize mayT L a1 = mr at *
  have t1 : (mr == mr) = true := by simp
  have t2 : (ok == ok) = true := by simp
  have t3 : (tt == tt) = true := by simp
  have t4 : (nx == nx) = true := by simp
  have t6 : ((r0 : Int) == (r0 : Int)) = true := by simp
  have t7 : (r1 == r1) = true := by simp
  have t8 : (r2 == r2) = true := by simp
  have t9 : (r3 == r3) = true := by simp
  clear hat w3 w0 w1 hN
  have HB0 := Lib.hid (Below.refl w.heap.size w)
  go_enter Try.func3, Try.ntmps3
  go_wp2_with fail
  refine (shown8 w).mono ?_
  rintro e1 w1 ⟨rfl, hb⟩
  have HB1 := Lib.hid (HB0.out.trans (hb.mono HB0.out.size))
  replace VR := Lib.hid (VR.out.bel hb)
  clear hb HB0
  go_wp2_with fail
  refine (FW.out _).mono ?_
  rintro e1 wq ⟨rfl, rfl⟩
  go_wp2_with fail
  refine (F1.out w1 VR.out).mono ?_
  rintro e1 w2 ⟨rfl, hb⟩
  have HB2 := Lib.hid (HB1.out.trans (hb.mono HB1.out.size))
  replace VR := Lib.hid (VR.out.bel hb)
  clear hb HB1
  go_upto_region 4 with fail
  obtain ⟨w3, hW⟩ : ∃ W, w2.alloc (.cells #[.int .u32 (r0 : Int), .int .i64 r1, .int .i64 r2, .int .i64 r3] 27) = W := ⟨_, rfl⟩
  obtain ⟨R, hG⟩ : ∃ G, w2.heap.size = G := ⟨_, rfl⟩
  rw [hW, hG]
  have hb : Below w2.heap.size w2 w3 := by subst hW; exact (Below.refl _ _).alloc (Nat.le_refl _) _
  have HB3 := Lib.hid (HB2.out.trans (hb.mono HB2.out.size))
  have LR : Hid (w.heap.size ≤ R) := by subst hG; exact HB2.out.size
  replace VR := Lib.hid (VR.out.bel hb)
  have KR : Hid (Blk R #[.int .u32 (r0 : Int), .int .i64 r1, .int .i64 r2, .int .i64 r3] 27 w3) := by subst hW hG; exact Blk.new _ _ _
  clear hb hW hG HB2
  go_wp2_with fail
  refine (F2.out w3 VR.out).mono ?_
  rintro e1 w4 ⟨rfl, hb⟩
  have HB4 := Lib.hid (HB3.out.trans (hb.mono HB3.out.size))
  replace VR := Lib.hid (VR.out.bel hb)
  replace KR := Lib.hid (KR.out.bel hb)
  clear hb HB3
  go_upto_region 5 with fail
  obtain ⟨w5, hW⟩ : ∃ W, w4.alloc (.cells #[.int .u32 (r0 : Int), .int .i64 r1, .int .i64 r2, .int .i64 r3] 27) = W := ⟨_, rfl⟩
  obtain ⟨S, hG⟩ : ∃ G, w4.heap.size = G := ⟨_, rfl⟩
  rw [hW, hG]
  have hb : Below w4.heap.size w4 w5 := by subst hW; exact (Below.refl _ _).alloc (Nat.le_refl _) _
  have HB5 := Lib.hid (HB4.out.trans (hb.mono HB4.out.size))
  have LS : Hid (w.heap.size ≤ S) := by subst hG; exact HB4.out.size
  have NRS : Hid (R < S) := by subst hG; exact KR.out.size
  replace VR := Lib.hid (VR.out.bel hb)
  replace KR := Lib.hid (KR.out.bel hb)
  have KS : Hid (Blk S #[.int .u32 (r0 : Int), .int .i64 r1, .int .i64 r2, .int .i64 r3] 27 w5) := by subst hW hG; exact Blk.new _ _ _
  clear hb hW hG HB4
  go_wp2_with fail
  refine (X1.out w5 VR.out).mono ?_
  rintro e1 w6 ⟨rfl, hb⟩
  have HB6 := Lib.hid (HB5.out.trans (hb.mono HB5.out.size))
  replace VR := Lib.hid (VR.out.bel hb)
  replace KR := Lib.hid (KR.out.bel hb)
  replace KS := Lib.hid (KS.out.bel hb)
  clear hb HB5
  go_wp2_with fail
  refine (X2.out w6 VR.out).mono ?_
  rintro e1 w7 ⟨rfl, hb⟩
  have HB7 := Lib.hid (HB6.out.trans (hb.mono HB6.out.size))
  replace VR := Lib.hid (VR.out.bel hb)
  replace KR := Lib.hid (KR.out.bel hb)
  replace KS := Lib.hid (KS.out.bel hb)
  clear hb HB6
  go_wp2_with fail
  refine (M1.out w7 VR.out).mono ?_
  rintro e1 w8 ⟨rfl, hb⟩
  have HB8 := Lib.hid (HB7.out.trans (hb.mono HB7.out.size))
  replace VR := Lib.hid (VR.out.bel hb)
  replace KR := Lib.hid (KR.out.bel hb)
  replace KS := Lib.hid (KS.out.bel hb)
  clear hb HB7
  go_wp2_with fail
  refine (M2.out w8 VR.out).mono ?_
  rintro e1 w9 ⟨rfl, hb⟩
  have HB9 := Lib.hid (HB8.out.trans (hb.mono HB8.out.size))
  replace VR := Lib.hid (VR.out.bel hb)
  replace KR := Lib.hid (KR.out.bel hb)
  replace KS := Lib.hid (KS.out.bel hb)
  clear hb HB8
  have qR0 := KR.out.cell 0 rfl
  have qR1 := KR.out.cell 1 rfl
  have qR2 := KR.out.cell 2 rfl
  have qR3 := KR.out.cell 3 rfl
  have qS0 := KS.out.cell 0 rfl
  have qS1 := KS.out.cell 1 rfl
  have qS2 := KS.out.cell 2 rfl
  have qS3 := KS.out.cell 3 rfl
  go_wp2_with fail
  go_ret
  exact ⟨rfl, HB9.out⟩
end Go.Proofs.Ytenkpoppbjgclaa
