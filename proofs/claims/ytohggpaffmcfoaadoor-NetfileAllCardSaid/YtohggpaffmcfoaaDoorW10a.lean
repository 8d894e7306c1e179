/- The walk of theseuslaw10.NetfileAll. -/
import Derived.Test.YtohggpaffmcfoaaDoorL10
import Derived.Test.YtohggpaffmcfoaaDoorL10f
import Derived.Test.YtohggpaffmcfoaaDoorRef10b
import Derived.Test.YtohggpaffmcfoaaDoorRef10t
import Derived.Test.YtohggpaffmcfoaaDoorSame
import Derived.Deep.DeepCutAuto
import Derived.Deep.RegionHeld3
namespace Go.Proofs.YtohggpaffmcfoaaDoor
open Go.RowKit
set_option linter.unusedVariables false
set_option maxRecDepth 100000
set_option linter.unusedSimpArgs false

set_option maxRecDepth 100000 in
set_option maxHeartbeats 8000000 in
theorem walkNetfileAll (a0 : Option Addr) (n0 c0 : Nat) (l0 : Nt) (a1 : Option Addr) (n1 c1 : Nat) (l1 : List UInt8) (w : World) (ht : Hid (Tab w)) (w0 : InNet w a0 n0 c0 l0) (w1 : InB w a1 n1 c1 l1) :
    Calls Tryd.prog 3 #[.agg #[.slice a0 n0 c0], .slice a1 n1 c1] w fun e w' => e = .returned (.bool true) ∧ Below w.heap.size w w' := by
  obtain ⟨m, L, hm, hlL, hcL, hxL, VL, FXL⟩ := few_pack10 _ _ _ _ _ w1
  have hmL : (m : Int) ≤ 400 := by omega
  have HEL := Lib.hid hlL
  have hx2L : (c1 : Int) ≤ 9223372036854775807 := by unfold maxLen at hxL; omega
  clear w1 hxL
  have HTW := ht
  have hwf := fewN_wf w0.wf
  have hsz : szN (fewN l0) ≤ 160 := by
    have h := szN_bound (fewN_le (N := l0))
    have h2 : (fewN l0).length * 20 ≤ 8 * 20 := Nat.mul_le_mul_right 20 (fewN_len l0)
    omega
  have VR0 := Lib.hid w0.isn
  have FW := Lib.hid (fun v w hv => few10 v l0 w hv)
  generalize fewN l0 = N at *
  have CP := Lib.hid (fun v w hv ht => nfput_any v N w hv (by omega) hwf ht)
  have CR := Lib.hid (fun v w hv => rnfput_any v N w hv (by omega) hwf)
  obtain ⟨P, c, hP⟩ : ∃ P c, putNf N = (P, c) := ⟨_, _, rfl⟩
  rw [hP] at CP CR
  simp only at CP CR
  have tc : (c == c) = true := by simp
  have tcn : decide (c = c) = true := by simp
  clear ht hwf hsz w0 hP
  have HB0 := Lib.hid (Below.refl w.heap.size w)
  go_enter Tryd.func3, Tryd.ntmps3
  go_wp2_with fail
  obtain ⟨w1, hW⟩ : ∃ W, w.alloc (.cells #[.slice a0 n0 c0] 24) = W := ⟨_, rfl⟩
  obtain ⟨g, hG⟩ : ∃ G, w.heap.size = G := ⟨_, rfl⟩
  rw [hW, hG]
  have hb : Below w.heap.size w w1 := by subst hW; exact (Below.refl _ _).alloc (Nat.le_refl _) _
  have HB1 := Lib.hid (HB0.out.trans (hb.mono HB0.out.size))
  have Lg : Hid (w.heap.size ≤ g) := by subst hG; exact HB0.out.size
  replace VR0 := Lib.hid (VR0.out.bel hb)
  replace VL := Lib.hid (VL.out.bel hb)
  replace HTW := Lib.hid (HTW.out.bel hb)
  have Kg : Hid (Blk g #[.slice a0 n0 c0] 24 w1) := by subst hW hG; exact Blk.new _ _ _
  clear hb hW hG HB0
  refine (shown10 w1 HTW).mono ?_
  rintro e1 w2 ⟨rfl, hb⟩
  have HB2 := Lib.hid (HB1.out.trans (hb.mono HB1.out.size))
  replace VR0 := Lib.hid (VR0.out.bel hb)
  replace VL := Lib.hid (VL.out.bel hb)
  replace HTW := Lib.hid (HTW.out.bel hb)
  replace Kg := Lib.hid (Kg.out.bel hb)
  clear hb HB1
  have qg0 := Kg.out.cell 0 rfl
  go_wp2_with fail
  refine (FW.out _ w2 VR0.out).mono ?_
  rintro e1 w3 ⟨xv, rfl, hv, hb⟩
  clear qg0
  have HB3 := Lib.hid (HB2.out.trans (hb.mono HB2.out.size))
  replace VR0 := Lib.hid (VR0.out.bel hb)
  replace VL := Lib.hid (VL.out.bel hb)
  replace HTW := Lib.hid (HTW.out.bel hb)
  replace Kg := Lib.hid (Kg.out.bel hb)
  have VX := Lib.hid (hv)
  clear hb HB2
  clear hv
  go_wp2_with fail
  refine (CP.out _ w3 VX.out HTW).mono ?_
  rintro e1 w4 ⟨pv, rfl, hv, hb⟩
  have HB4 := Lib.hid (HB3.out.trans (hb.mono HB3.out.size))
  replace VR0 := Lib.hid (VR0.out.bel hb)
  replace VL := Lib.hid (VL.out.bel hb)
  replace HTW := Lib.hid (HTW.out.bel hb)
  replace Kg := Lib.hid (Kg.out.bel hb)
  replace VX := Lib.hid (VX.out.bel hb)
  have VP := Lib.hid (hv)
  clear hb HB3
  clear hv CP
  clear VX
  have qg0 := Kg.out.cell 0 rfl
  go_wp2_with fail
  refine (FW.out _ w4 VR0.out).mono ?_
  rintro e1 w5 ⟨yv, rfl, hv, hb⟩
  clear qg0
  have HB5 := Lib.hid (HB4.out.trans (hb.mono HB4.out.size))
  replace VR0 := Lib.hid (VR0.out.bel hb)
  replace VL := Lib.hid (VL.out.bel hb)
  replace HTW := Lib.hid (HTW.out.bel hb)
  replace Kg := Lib.hid (Kg.out.bel hb)
  replace VP := Lib.hid (VP.out.bel hb)
  have VX := Lib.hid (hv)
  clear hb HB4
  clear hv FW
  go_wp2_with fail
  refine (CR.out _ w5 VX.out).mono ?_
  rintro e1 w6 ⟨qv, rfl, hv, hb⟩
  have HB6 := Lib.hid (HB5.out.trans (hb.mono HB5.out.size))
  replace VR0 := Lib.hid (VR0.out.bel hb)
  replace VL := Lib.hid (VL.out.bel hb)
  replace HTW := Lib.hid (HTW.out.bel hb)
  replace Kg := Lib.hid (Kg.out.bel hb)
  replace VP := Lib.hid (VP.out.bel hb)
  replace VX := Lib.hid (VX.out.bel hb)
  have VQ := Lib.hid (hv)
  clear hb HB5
  clear hv CR
  clear VX VR0 Kg
  go_wp2_with fail
  refine (FXL.out _).mono ?_
  rintro e1 wq ⟨rfl, rfl⟩
  go_wp2_with fail
  go_loopw [10, 11] (fun x i wr => ∃ (k : Nat) (D : List UInt8), k ≤ 2 ∧ i = .int .i64 k ∧ D.length ≤ 408 ∧ Hid (IsB wr x D) ∧ Hid (Below w6.heap.size w6 wr)) (fun _ i _ => 2 - (intOf i).toNat)
  case atStart => exact ⟨0, L, by omega, rfl, by rw [HEL.out]; omega, VL, Below.refl _ _⟩
  case round =>
    obtain ⟨k, D, hk, rfl, hD, VD, HBr⟩ := hrel
    have hb := HBr.out
    replace HB6 := Lib.hid (HB6.out.trans (hb.mono HB6.out.size))
    replace VL := Lib.hid (VL.out.bel hb)
    replace VP := Lib.hid (VP.out.bel hb)
    replace VQ := Lib.hid (VQ.out.bel hb)
    replace HTW := Lib.hid (HTW.out.bel hb)
    by_cases hlt : k < 2
    · have hki : (k : Int) < 2 := by omega
      have C1 := Lib.hid (fun v w hv ht => nftake_any v D w hv (by omega) ht)
      have C2 := Lib.hid (fun v w hv => rnftake_any v D w hv (by omega))
      obtain ⟨Q, d, hQ⟩ : ∃ Q d, takeNf D = (Q, d) := ⟨_, _, rfl⟩
      rw [hQ] at C1 C2
      simp only at C1 C2
      clear hQ hb
      obtain ⟨NQ, hNQ⟩ : ∃ n, Q.length = n := ⟨_, rfl⟩
      have HNQ := Lib.hid hNQ
      clear hNQ
      have td : (d != d) = false := by simp
      have HX0 := Lib.hid (Below.refl wr.heap.size wr)
      clear HX0
      have HB0 := HBr
      clear HBr
      have LW : Hid (w6.heap.size ≤ wr.heap.size) := HB0.out.size
      have HBW := HB6
      clear HB6
      go_wp2_with fail
      refine (C1.out _ wr VD.out HTW).mono ?_
      rintro e1 y1 ⟨xq, rfl, hv, hb⟩
      have HB1 := Lib.hid (HB0.out.trans (hb.mono HB0.out.size))
      replace VD := Lib.hid (VD.out.bel hb)
      replace VL := Lib.hid (VL.out.bel hb)
      replace HTW := Lib.hid (HTW.out.bel hb)
      have VX := Lib.hid (hv)
      clear hb
      clear hv C1
      obtain ⟨AX, cX, rfl, _, _, _⟩ := VX.out.slice
      simp only [HNQ.out] at VX ⊢
      go_upto_region 9 with fail
      obtain ⟨y2, hW⟩ : ∃ W, y1.alloc (.cells #[.slice AX NQ cX] 24) = W := ⟨_, rfl⟩
      obtain ⟨B, hG⟩ : ∃ G, y1.heap.size = G := ⟨_, rfl⟩
      rw [hW, hG]
      have hb : Below y1.heap.size y1 y2 := by subst hW; exact (Below.refl _ _).alloc (Nat.le_refl _) _
      have HB2 := Lib.hid (HB1.out.trans (hb.mono HB1.out.size))
      replace VD := Lib.hid (VD.out.bel hb)
      replace VL := Lib.hid (VL.out.bel hb)
      replace HTW := Lib.hid (HTW.out.bel hb)
      replace VX := Lib.hid (VX.out.bel hb)
      have KB : Hid (Blk B #[.slice AX NQ cX] 24 y2) := by subst hW hG; exact Blk.new _ _ _
      clear hb hW hG
      go_wp2_with fail
      refine (C2.out _ y2 VD.out).mono ?_
      rintro e1 y3 ⟨yq, rfl, hv, hb⟩
      have HB3 := Lib.hid (HB2.out.trans (hb.mono HB2.out.size))
      replace VD := Lib.hid (VD.out.bel hb)
      replace VL := Lib.hid (VL.out.bel hb)
      replace HTW := Lib.hid (HTW.out.bel hb)
      replace VX := Lib.hid (VX.out.bel hb)
      replace KB := Lib.hid (KB.out.bel hb)
      have VY := Lib.hid (hv)
      clear hb
      clear hv C2
      obtain ⟨AY, cY, rfl, _, _, _⟩ := VY.out.slice
      simp only [HNQ.out] at VY ⊢
      go_upto_region 10 with fail
      obtain ⟨y4, hW⟩ : ∃ W, y3.alloc (.cells #[.slice AY NQ cY] 24) = W := ⟨_, rfl⟩
      obtain ⟨D2, hG⟩ : ∃ G, y3.heap.size = G := ⟨_, rfl⟩
      rw [hW, hG]
      have hb : Below y3.heap.size y3 y4 := by subst hW; exact (Below.refl _ _).alloc (Nat.le_refl _) _
      have HB4 := Lib.hid (HB3.out.trans (hb.mono HB3.out.size))
      replace VD := Lib.hid (VD.out.bel hb)
      replace VL := Lib.hid (VL.out.bel hb)
      replace HTW := Lib.hid (HTW.out.bel hb)
      replace VX := Lib.hid (VX.out.bel hb)
      replace KB := Lib.hid (KB.out.bel hb)
      replace VY := Lib.hid (VY.out.bel hb)
      have KD2 : Hid (Blk D2 #[.slice AY NQ cY] 24 y4) := by subst hW hG; exact Blk.new _ _ _
      clear hb hW hG
      have qB0 := KB.out.cell 0 rfl
      have qD20 := KD2.out.cell 0 rfl
      go_wp2_with fail
      refine (rsame9_any _ _ Q Q y4 VX.out VY.out).mono ?_
      rintro e1 y5 ⟨q, rfl, hq, hb⟩
      clear qB0 qD20
      have HB5 := Lib.hid (HB4.out.trans (hb.mono HB4.out.size))
      replace VD := Lib.hid (VD.out.bel hb)
      replace VL := Lib.hid (VL.out.bel hb)
      replace HTW := Lib.hid (HTW.out.bel hb)
      replace VX := Lib.hid (VX.out.bel hb)
      replace KB := Lib.hid (KB.out.bel hb)
      replace VY := Lib.hid (VY.out.bel hb)
      replace KD2 := Lib.hid (KD2.out.bel hb)
      clear hb
      obtain rfl : q = true := hq.2 rfl
      clear hq
      clear VX VY KB KD2 VD
      go_wp2_with fail
      refine (FXL.out _).mono ?_
      rintro e1 wq ⟨rfl, rfl⟩
      go_wp2_with fail
      refine (fput_any 1179206193 (.slice a1 m c1) L y5 (by decide) VL.out (by rw [HEL.out]; omega) HTW).mono ?_
      rintro e1 y6 ⟨fv, rfl, ho, hb⟩
      have HB6 := Lib.hid (HB5.out.trans (hb.mono HB5.out.size))
      replace VL := Lib.hid (VL.out.bel hb)
      replace HTW := Lib.hid (HTW.out.bel hb)
      have VF := Lib.hid (fput_isb ho)
      clear hb
      clear ho
      go_wp2_with fail
      go_roundw
      case rel => exact ⟨k + 1, _, by omega, by go_num, by rw [frameN_length, HEL.out]; omega, VF, HB6⟩
      case measure => simp [intOf]; omega
    · obtain rfl : k = 2 := by omega
      clear hb HBr VD
      have s1 := str_in VP.out
      have s2 := str_in VQ.out
      go_wp2_with fail
      go_ret
      exact ⟨rfl, HB6.out⟩
end Go.Proofs.YtohggpaffmcfoaaDoor
