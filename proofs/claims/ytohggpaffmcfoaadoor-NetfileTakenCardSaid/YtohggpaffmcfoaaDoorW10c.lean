/- The walk of theseuslaw10.NetfileTaken. -/
import Derived.Test.YtohggpaffmcfoaaDoorL10
import Derived.Test.YtohggpaffmcfoaaDoorNetM
import Derived.Deep.DeepCutAuto
import Derived.Deep.RegionHeld3
namespace Go.Proofs.YtohggpaffmcfoaaDoor
open Go.RowKit
set_option linter.unusedVariables false
set_option maxRecDepth 100000
set_option linter.unusedSimpArgs false

set_option maxRecDepth 100000 in
set_option maxHeartbeats 8000000 in
theorem walkNetfileTaken (a0 : Option Addr) (n0 c0 : Nat) (l0 : List UInt8) (w : World) (ht : Hid (Tab w)) (w0 : InB w a0 n0 c0 l0) :
    Calls Tryd.prog 5 #[.slice a0 n0 c0] w fun e w' => e = .returned (.bool true) ∧ Below w.heap.size w w' := by
  obtain ⟨m, L, hm, hlL, hcL, hxL, VL, FXL⟩ := few_pack10 _ _ _ _ _ w0
  have hmL : (m : Int) ≤ 400 := by omega
  have HEL := Lib.hid hlL
  have hx2L : (c0 : Int) ≤ 9223372036854775807 := by unfold maxLen at hxL; omega
  clear w0 hxL
  have HTW := ht
  clear ht
  obtain ⟨F, hF⟩ : ∃ F, frameN 1179206193 L = F := ⟨_, rfl⟩
  have hFl : F.length ≤ 408 := by rw [← hF, frameN_length]; omega
  have hb : takeNf F = bodyT L := by rw [← hF]; exact takeNf_frame L
  obtain ⟨Q, c, hQ⟩ : ∃ Q c, takeNf F = (Q, c) := ⟨_, _, rfl⟩
  have CT := Lib.hid (fun v w hv ht => nftake_any v F w hv (by omega) ht)
  rw [hQ] at CT
  have HF := Lib.hid hF
  clear hFl hF
  simp only at CT
  by_cases hc : c = 0
  · subst hc
    obtain ⟨hm, hp, hw⟩ := takeNf_taken (b := F) (by rw [hQ])
    rw [hQ] at hm hp hw
    simp only at hm hp hw
    have hs := (mayN_ok.1 hm).2.1
    have CP := Lib.hid (fun v w hv ht => nfput_any v Q w hv (by omega) hw ht)
    rw [hp] at CP
    have CM := Lib.hid (fun v w hv => nmay_any v Q w hv (by omega) hw)
    rw [hm] at CM
    simp only at CP
    clear hm hp hw hs hb hQ
    have HB0 := Lib.hid (Below.refl w.heap.size w)
    go_enter Tryd.func5, Tryd.ntmps5
    go_wp2_with fail
    refine (shown10 w HTW).mono ?_
    rintro e1 w1 ⟨rfl, hb⟩
    have HB1 := Lib.hid (HB0.out.trans (hb.mono HB0.out.size))
    replace VL := Lib.hid (VL.out.bel hb)
    replace HTW := Lib.hid (HTW.out.bel hb)
    clear hb HB0
    go_wp2_with fail
    refine (FXL.out _).mono ?_
    rintro e1 wq ⟨rfl, rfl⟩
    go_wp2_with fail
    refine (fput_any 1179206193 (.slice a0 m c0) L _ (by decide) VL.out (by rw [HEL.out]; omega) HTW).mono ?_
    rintro e1 w2 ⟨fv, rfl, ho, hb⟩
    have HB2 := Lib.hid (HB1.out.trans (hb.mono HB1.out.size))
    replace VL := Lib.hid (VL.out.bel hb)
    replace HTW := Lib.hid (HTW.out.bel hb)
    have VF := Lib.hid (fput_isb ho)
    clear hb HB1
    clear ho
    rw [HF.out] at VF
    go_wp2_with fail
    refine (CT.out _ w2 VF.out HTW).mono ?_
    rintro e1 w3 ⟨tv, rfl, hv, hb⟩
    have HB3 := Lib.hid (HB2.out.trans (hb.mono HB2.out.size))
    replace VL := Lib.hid (VL.out.bel hb)
    replace HTW := Lib.hid (HTW.out.bel hb)
    replace VF := Lib.hid (VF.out.bel hb)
    have VQ := Lib.hid (hv)
    clear hb HB2
    clear hv CT
    obtain ⟨AQ, cQ, rfl, hcQ, _, _⟩ := VQ.out.slice
    obtain ⟨NQ, hNQ⟩ : ∃ n, Q.length = n := ⟨_, rfl⟩
    simp only [hNQ] at VQ ⊢
    clear hNQ hcQ
    go_upto_region 4 with fail
    obtain ⟨w4, hW⟩ : ∃ W, w3.alloc (.cells #[.slice AQ NQ cQ] 24) = W := ⟨_, rfl⟩
    obtain ⟨B, hG⟩ : ∃ G, w3.heap.size = G := ⟨_, rfl⟩
    rw [hW, hG]
    have hb : Below w3.heap.size w3 w4 := by subst hW; exact (Below.refl _ _).alloc (Nat.le_refl _) _
    have HB4 := Lib.hid (HB3.out.trans (hb.mono HB3.out.size))
    have LB : Hid (w.heap.size ≤ B) := by subst hG; exact HB3.out.size
    replace VL := Lib.hid (VL.out.bel hb)
    replace HTW := Lib.hid (HTW.out.bel hb)
    replace VF := Lib.hid (VF.out.bel hb)
    replace VQ := Lib.hid (VQ.out.bel hb)
    have KB : Hid (Blk B #[.slice AQ NQ cQ] 24 w4) := by subst hW hG; exact Blk.new _ _ _
    clear hb hW hG HB3
    have qB0 := KB.out.cell 0 rfl
    go_wp2_with fail
    refine (CP.out _ w4 VQ.out HTW).mono ?_
    rintro e1 w5 ⟨pv, rfl, hv, hb⟩
    clear qB0
    have HB5 := Lib.hid (HB4.out.trans (hb.mono HB4.out.size))
    replace VL := Lib.hid (VL.out.bel hb)
    replace HTW := Lib.hid (HTW.out.bel hb)
    replace VF := Lib.hid (VF.out.bel hb)
    replace VQ := Lib.hid (VQ.out.bel hb)
    replace KB := Lib.hid (KB.out.bel hb)
    have VP := Lib.hid (hv)
    clear hb HB4
    clear hv CP
    have s1 := str_in VP.out
    have s2 := str_in VF.out
    have qB0 := KB.out.cell 0 rfl
    go_wp2_with fail
    refine (CM.out _ w5 VQ.out).mono ?_
    rintro e1 w6 ⟨rfl, hb⟩
    clear qB0
    have HB6 := Lib.hid (HB5.out.trans (hb.mono HB5.out.size))
    replace VL := Lib.hid (VL.out.bel hb)
    replace HTW := Lib.hid (HTW.out.bel hb)
    replace VF := Lib.hid (VF.out.bel hb)
    replace VQ := Lib.hid (VQ.out.bel hb)
    replace KB := Lib.hid (KB.out.bel hb)
    replace VP := Lib.hid (VP.out.bel hb)
    clear hb HB5
    clear s1 s2
    go_wp2_with fail
    go_ret
    exact ⟨rfl, HB6.out⟩
  · have hn := takeNf_none (b := F) (by rw [hQ]; exact hc)
    rw [hQ] at hn
    simp only at hn
    subst hn
    have he := bodyT_err L
    rw [← hb, hQ] at he
    have t0 : (c != 0) = true := by simp [bne_iff_ne, hc]
    have t5 : (c != 5) = true := by simp [bne_iff_ne]; exact he.1
    have t6 : (c != 6) = true := by simp [bne_iff_ne]; exact he.2
    clear hc hb hQ he
    have HB0 := Lib.hid (Below.refl w.heap.size w)
    go_enter Tryd.func5, Tryd.ntmps5
    go_wp2_with fail
    refine (shown10 w HTW).mono ?_
    rintro e1 w1 ⟨rfl, hb⟩
    have HB1 := Lib.hid (HB0.out.trans (hb.mono HB0.out.size))
    replace VL := Lib.hid (VL.out.bel hb)
    replace HTW := Lib.hid (HTW.out.bel hb)
    clear hb HB0
    go_wp2_with fail
    refine (FXL.out _).mono ?_
    rintro e1 wq ⟨rfl, rfl⟩
    go_wp2_with fail
    refine (fput_any 1179206193 (.slice a0 m c0) L _ (by decide) VL.out (by rw [HEL.out]; omega) HTW).mono ?_
    rintro e1 w2 ⟨fv, rfl, ho, hb⟩
    have HB2 := Lib.hid (HB1.out.trans (hb.mono HB1.out.size))
    replace VL := Lib.hid (VL.out.bel hb)
    replace HTW := Lib.hid (HTW.out.bel hb)
    have VF := Lib.hid (fput_isb ho)
    clear hb HB1
    clear ho
    rw [HF.out] at VF
    go_wp2_with fail
    refine (CT.out _ w2 VF.out HTW).mono ?_
    rintro e1 w3 ⟨tv, rfl, hv, hb⟩
    have HB3 := Lib.hid (HB2.out.trans (hb.mono HB2.out.size))
    replace VL := Lib.hid (VL.out.bel hb)
    replace HTW := Lib.hid (HTW.out.bel hb)
    replace VF := Lib.hid (VF.out.bel hb)
    have VQ := Lib.hid (hv)
    clear hb HB2
    clear hv CT
    obtain ⟨AQ, cQ, rfl, _, _, _⟩ := VQ.out.slice
    simp only [List.length_nil] at VQ ⊢
    go_upto_region 4 with fail
    obtain ⟨w4, hW⟩ : ∃ W, w3.alloc (.cells #[.slice AQ 0 cQ] 24) = W := ⟨_, rfl⟩
    obtain ⟨B, hG⟩ : ∃ G, w3.heap.size = G := ⟨_, rfl⟩
    rw [hW, hG]
    have hb : Below w3.heap.size w3 w4 := by subst hW; exact (Below.refl _ _).alloc (Nat.le_refl _) _
    have HB4 := Lib.hid (HB3.out.trans (hb.mono HB3.out.size))
    have LB : Hid (w.heap.size ≤ B) := by subst hG; exact HB3.out.size
    replace VL := Lib.hid (VL.out.bel hb)
    replace HTW := Lib.hid (HTW.out.bel hb)
    replace VF := Lib.hid (VF.out.bel hb)
    replace VQ := Lib.hid (VQ.out.bel hb)
    have KB : Hid (Blk B #[.slice AQ 0 cQ] 24 w4) := by subst hW hG; exact Blk.new _ _ _
    clear hb hW hG HB3
    have qB0 := KB.out.cell 0 rfl
    go_wp2_with fail
    go_ret
    exact ⟨rfl, HB4.out⟩
end Go.Proofs.YtohggpaffmcfoaaDoor
