/- The walk of theseuslaw10.NetfileBack. -/
import Derived.Test.YtohggpaffmcfoaaDoorL10
import Derived.Test.YtohggpaffmcfoaaDoorTurn
import Derived.Test.YtohggpaffmcfoaaDoorSame
import Derived.Test.YtohggpaffmcfoaaDoorRef10b
import Derived.Test.YtohggpaffmcfoaaDoorRef10n
import Derived.Test.YtohggpaffmcfoaaDoorLit
import Derived.StillTailTactics
import Derived.Deep.DeepCutAuto
import Derived.Deep.RegionHeld3
namespace Go.Proofs.YtohggpaffmcfoaaDoor
open Go.RowKit
set_option linter.unusedVariables false
set_option linter.unusedSimpArgs false

attribute [local go_sem ↓] sliced_cut
attribute [local go_sem] cutA_zero
set_option maxRecDepth 100000
set_option maxRecDepth 100000 in
set_option maxHeartbeats 8000000 in
theorem walkNetfileBack (a0 : Option Addr) (n0 c0 : Nat) (l0 : Nt) (a1 a2 : Int) (w : World) (ht : Hid (Tab w)) (w0 : InNet w a0 n0 c0 l0) (w1 : (Lit.int .u16 a1).wf = true) (w2 : (Lit.int .u8 a2).wf = true) :
    Calls Tryd.prog 4 #[.agg #[.slice a0 n0 c0], .int .u16 a1, .int .u8 a2] w fun e w' => e = .returned (.bool true) ∧ Below w.heap.size w w' := by
  obtain ⟨hl1, hh1⟩ := bounds_u16 w1
  obtain ⟨q0, rfl⟩ := Int.eq_ofNat_of_zero_le hl1
  have hq0 : (q0 : Int) ≤ 65535 := by omega
  clear w1 hl1 hh1
  obtain ⟨hl1, hh1⟩ := bounds_u8 w2
  obtain ⟨b0, rfl⟩ := Int.eq_ofNat_of_zero_le hl1
  obtain ⟨c, rfl⟩ : ∃ c : UInt8, b0 = c.toNat := ⟨UInt8.ofNat b0, by simp; omega⟩
  clear w2 hl1 hh1
  have hwf0 := w0.wf
  have VR0 := Lib.hid w0.isn
  obtain ⟨T, F, hT0, hmT, hwT, hnT, h1T, hlT, hsT, hFT, hLT, hBT, hkT, hpT⟩ := fit_facts l0 hwf0
  have FTT := Lib.hid (fun v w hv => rfitN_any v l0 w hv hwf0)
  rw [hT0] at FTT
  have CPT := Lib.hid (fun v w hv ht => put10 v T F w hv hsT hwT hpT ht)
  have HMT := Lib.hid hmT
  have HWT := Lib.hid hwT
  have HFT := Lib.hid hFT
  have HLT := Lib.hid hLT
  have HBT := Lib.hid hBT
  have HKT := Lib.hid hkT
  have HGT := Lib.hid hlT
  have HST := Lib.hid hsT
  obtain ⟨NT, hNT⟩ : ∃ n, T.length = n := ⟨_, rfl⟩
  rw [hNT] at hnT h1T
  have HNT := Lib.hid hNT
  have hn8T : (NT : Int) ≤ 8 := by omega
  have hn1T : 1 ≤ (NT : Int) := by omega
  clear hwf0 w0 hT0 hmT hwT hlT hsT hFT hLT hBT hkT hpT hNT h1T hnT
  have HTW := ht
  clear ht
  obtain ⟨m, hm⟩ : ∃ m, (bodyB T).length = m := ⟨_, rfl⟩
  have hm0 : m ≤ 1364 := by rw [← hm]; exact HBT.out
  have hFl : F.length = m + 8 := by rw [HLT.out, hm]
  have HFL := Lib.hid hFl
  have hmI : (m : Int) ≤ 1364 := by omega
  obtain ⟨E2, hE2⟩ : ∃ E2 : Nat, 8 * (m + 8) = E2 := ⟨_, rfl⟩
  have HE2 : Hid (8 * ((m : Int) + 8) = (E2 : Int)) := by show _ = _; omega
  obtain ⟨b2, hb2⟩ : ∃ b2 : Nat, q0 % E2 = b2 := ⟨_, rfl⟩
  have hb2E : b2 < E2 := by rw [← hb2]; exact Nat.mod_lt _ (by omega)
  have HBM : Hid ((q0 : Int) % (E2 : Int) = (b2 : Int)) := by show _ = _; omega
  obtain ⟨q, hq⟩ : ∃ q, b2 / 8 = q := ⟨_, rfl⟩
  obtain ⟨j, hj⟩ : ∃ j, b2 % 8 = j := ⟨_, rfl⟩
  have hj8 : j < 8 := by omega
  have hqm : q < m + 8 := by omega
  have HQJ : Hid (b2 / 8 = q ∧ b2 % 8 = j) := ⟨hq, hj⟩
  have hE2b : (E2 : Int) ≤ 10976 := by omega
  have hFX := HFT.out
  obtain ⟨e1, hT1, he1⟩ := turn_take (bodyB T) b2 (by omega)
  obtain ⟨e2, hT2, he2⟩ := cut_take HMT.out HWT.out (by
    have h := putNf_ok HMT.out
    rw [hFX] at h
    exact h) (j := q) (by rw [hFl]; exact hqm)
  have hT3 := more_take HMT.out HWT.out c
  have hmid := frame_mid magicN (bodyB T)
  rw [hFX] at hT1 hmid
  rw [hFl] at hmid
  obtain ⟨G3, hG3⟩ : ∃ G, frameN 1179206193 (bodyB T ++ [c]) = G := ⟨_, rfl⟩
  change takeNf (frameN 1179206193 (bodyB T ++ [c])) = _ at hT3
  have hG3l : G3.length ≤ 1400 := by rw [← hG3, frameN_length, List.length_append]; simp; omega
  rw [hG3] at hT3
  have C0 := Lib.hid (fun v w hv ht => nftake_any v F w hv (by omega) ht)
  have C1 := Lib.hid (fun v w hv ht => nftake_any v (turnB F b2) w hv (by rw [turnB_length]; omega) ht)
  have C2 := Lib.hid (fun v w hv ht => nftake_any v (F.take q) w hv (by rw [List.length_take]; omega) ht)
  have C3 := Lib.hid (fun v w hv ht => nftake_any v G3 w hv (by omega) ht)
  rw [HKT.out] at C0
  rw [hT1] at C1
  rw [hT2] at C2
  rw [hT3] at C3
  simp only at C0 C1 C2 C3
  have t2 : (e2 != 0) = true := by simp [bne_iff_ne, he2]
  have HE1 := Lib.hid he1
  have HMID := Lib.hid hmid
  have HG3 := Lib.hid hG3
  have hqI : (q : Int) ≤ (m : Int) + 8 := by omega
  have hlen8 : ¬ ((m : Int) + 8 < 8) := by omega
  have HML := Lib.hid hm
  clear hb2 hq hj hm hT1 hT2 hT3 he1 he2 hmid hG3 hG3l hFX hFl
  have HB0 := Lib.hid (Below.refl w.heap.size w)
  go_enter Tryd.func4, Tryd.ntmps4
  go_wp2_with fail
  obtain ⟨w1, hW⟩ : ∃ W, w.alloc (.cells #[.slice a0 n0 c0] 24) = W := ⟨_, rfl⟩
  obtain ⟨g, hG⟩ : ∃ G, w.heap.size = G := ⟨_, rfl⟩
  rw [hW, hG]
  have hb : Below w.heap.size w w1 := by subst hW; exact (Below.refl _ _).alloc (Nat.le_refl _) _
  have HB1 := Lib.hid (HB0.out.trans (hb.mono HB0.out.size))
  have Lg : Hid (w.heap.size ≤ g) := by subst hG; exact HB0.out.size
  replace VR0 := Lib.hid (VR0.out.bel hb)
  replace HTW := Lib.hid (HTW.out.bel hb)
  have Kg : Hid (Blk g #[.slice a0 n0 c0] 24 w1) := by subst hW hG; exact Blk.new _ _ _
  clear hb hW hG HB0
  refine (shown10 w1 HTW).mono ?_
  rintro e1 w2 ⟨rfl, hb⟩
  have HB2 := Lib.hid (HB1.out.trans (hb.mono HB1.out.size))
  replace VR0 := Lib.hid (VR0.out.bel hb)
  replace HTW := Lib.hid (HTW.out.bel hb)
  replace Kg := Lib.hid (Kg.out.bel hb)
  clear hb HB1
  have qg0 := Kg.out.cell 0 rfl
  go_wp2_with fail
  refine (FTT.out _ w2 VR0.out).mono ?_
  rintro e1 w3 ⟨tvT, rfl, hown, hb⟩
  clear qg0
  have HB3 := Lib.hid (HB2.out.trans (hb.mono HB2.out.size))
  replace VR0 := Lib.hid (VR0.out.bel hb)
  replace HTW := Lib.hid (HTW.out.bel hb)
  replace Kg := Lib.hid (Kg.out.bel hb)
  have VT := Lib.hid (hown)
  clear hb HB2
  clear hown FTT
  obtain ⟨AT, cT, rfl, hcT, _, _⟩ := VT.out.slice
  rw [HNT.out] at hcT
  have hc2T : (NT : Int) ≤ (cT : Int) := by omega
  simp only [HNT.out] at VT ⊢
  clear hcT
  clear Kg VR0
  go_upto_region 3 with fail
  obtain ⟨w4, hW⟩ : ∃ W, w3.alloc (.cells #[.slice AT NT cT] 24) = W := ⟨_, rfl⟩
  obtain ⟨B, hG⟩ : ∃ G, w3.heap.size = G := ⟨_, rfl⟩
  rw [hW, hG]
  have hb : Below w3.heap.size w3 w4 := by subst hW; exact (Below.refl _ _).alloc (Nat.le_refl _) _
  have HB4 := Lib.hid (HB3.out.trans (hb.mono HB3.out.size))
  have LB : Hid (w.heap.size ≤ B) := by subst hG; exact HB3.out.size
  replace HTW := Lib.hid (HTW.out.bel hb)
  replace VT := Lib.hid (VT.out.bel hb)
  have KB : Hid (Blk B #[.slice AT NT cT] 24 w4) := by subst hW hG; exact Blk.new _ _ _
  clear hb hW hG HB3
  have qB0 := KB.out.cell 0 rfl
  go_wp2_with fail
  refine (CPT.out _ w4 VT.out HTW).mono ?_
  rintro e1 w5 ⟨bv, rfl, hv, hb⟩
  clear qB0
  have HB5 := Lib.hid (HB4.out.trans (hb.mono HB4.out.size))
  replace HTW := Lib.hid (HTW.out.bel hb)
  replace VT := Lib.hid (VT.out.bel hb)
  replace KB := Lib.hid (KB.out.bel hb)
  have VB := Lib.hid (hv)
  clear hb HB4
  clear hv CPT
  obtain ⟨Ab, nb, cb, rfl, hnb, hcb, hlb, _⟩ := VB.out
  obtain rfl : nb = m + 8 := by rw [← hlb]; exact HFL.out
  have hcbI : (m : Int) + 8 ≤ (cb : Int) := by omega
  have hcb2 : (cb : Int) ≤ 9223372036854775807 := by unfold maxLen at hcb; omega
  clear hlb hcb
  go_wp2_with fail
  refine (C0.out _ w5 VB.out HTW).mono ?_
  rintro e1 w6 ⟨xv, rfl, hv, hb⟩
  have HB6 := Lib.hid (HB5.out.trans (hb.mono HB5.out.size))
  replace HTW := Lib.hid (HTW.out.bel hb)
  replace VT := Lib.hid (VT.out.bel hb)
  replace KB := Lib.hid (KB.out.bel hb)
  replace VB := Lib.hid (VB.out.bel hb)
  have VX := Lib.hid (hv)
  clear hb HB5
  clear hv C0
  obtain ⟨AX, cX, rfl, _, _, _⟩ := VX.out.slice
  simp only [HNT.out] at VX ⊢
  go_upto_region 5 with fail
  obtain ⟨w7, hW⟩ : ∃ W, w6.alloc (.cells #[.slice AX NT cX] 24) = W := ⟨_, rfl⟩
  obtain ⟨D, hG⟩ : ∃ G, w6.heap.size = G := ⟨_, rfl⟩
  rw [hW, hG]
  have hb : Below w6.heap.size w6 w7 := by subst hW; exact (Below.refl _ _).alloc (Nat.le_refl _) _
  have HB7 := Lib.hid (HB6.out.trans (hb.mono HB6.out.size))
  have LD : Hid (w.heap.size ≤ D) := by subst hG; exact HB6.out.size
  have NBD : Hid (B < D) := by subst hG; exact KB.out.size
  replace HTW := Lib.hid (HTW.out.bel hb)
  replace VT := Lib.hid (VT.out.bel hb)
  replace KB := Lib.hid (KB.out.bel hb)
  replace VB := Lib.hid (VB.out.bel hb)
  replace VX := Lib.hid (VX.out.bel hb)
  have KD : Hid (Blk D #[.slice AX NT cX] 24 w7) := by subst hW hG; exact Blk.new _ _ _
  clear hb hW hG HB6
  have qB0 := KB.out.cell 0 rfl
  have qD0 := KD.out.cell 0 rfl
  go_wp2_with fail
  refine (rsame9_any _ _ T T w7 VX.out VT.out).mono ?_
  rintro e1 w8 ⟨q9, rfl, hq, hb⟩
  clear qB0 qD0
  have HB8 := Lib.hid (HB7.out.trans (hb.mono HB7.out.size))
  replace HTW := Lib.hid (HTW.out.bel hb)
  replace VT := Lib.hid (VT.out.bel hb)
  replace KB := Lib.hid (KB.out.bel hb)
  replace VB := Lib.hid (VB.out.bel hb)
  replace VX := Lib.hid (VX.out.bel hb)
  replace KD := Lib.hid (KD.out.bel hb)
  clear hb HB7
  obtain rfl : q9 = true := hq.2 rfl
  clear hq
  clear VX KB KD VT
  go_upto_region 8 with fail
  rw [HE2.out, HBM.out]
  obtain ⟨i0, hi0, hz0, hz1, hz2⟩ := info_parts byte_info
  have HA : Hid (Has w8 Ab (vals F)) := by
    obtain ⟨_, _, _, e, _, _, _, h⟩ := VB.out
    injection e with e1 e2 e3
    subst e1
    exact h
  have HOL := Lib.hid (World.ownsRow_lit (e := 5) (size := 1) w8 #[] 0 (Nat.le_refl _) (by decide) rfl)
  go_upto_region 9 with (at_builtin; refine wpList_append_has _ rfl (.tmp 61) (.tmp 62) _ rfl w8.heap.size 5 i0 (.int .u8 0) 1 Tryd.underlying25 hi0 hz0 hz1 hz2 rfl (.slice (some ⟨w8.heap.size, 0, none⟩) 0 0) 0 [] rfl HOL.out Ab (m + 8) cb (vals F) rfl (by rw [vals_length]; exact HFL.out) (HA.out.alloc _) (vals_one _) (by unfold maxLen; omega) (by omega) (by simp) ?_; intro v5 x1 hown5 hgrow5 _; have HO5 := Lib.hid hown5; have HBa : Hid (Below w8.heap.size w8 x1) := ((Below.refl _ _).alloc (Nat.le_refl _) _).grown hgrow5 (by simp) (fun q hq => (HOL.out.lt q hq).1); clear hown5 hgrow5)
  obtain ⟨g2, cap2, rfl, hncap2, hcap2, hg2⟩ : ∃ g cap, v5 = .slice (some ⟨g, 0, none⟩) (m + 8) cap ∧ m + 8 ≤ cap ∧ cap ≤ maxLen ∧ w8.heap.size ≤ g := by
    rcases HO5.out.2 with ⟨rfl, h⟩ | ⟨g, cap, cur, rfl, h1, _, hnc2, hcap2, _⟩
    · omega
    · rw [Nat.zero_add] at hnc2 ⊢
      exact ⟨g, cap, rfl, hnc2, hcap2, h1⟩
  have HO5' : Hid (x1.ownsRow w8.heap.size 5 1 (.slice (some ⟨g2, 0, none⟩) (m + 8) cap2) (m + 8) (vals F)) := by
    have h := HO5.out
    rw [List.nil_append, Nat.zero_add] at h
    exact h
  have HG2 := Lib.hid hg2
  have HC2 := Lib.hid hcap2
  clear HO5 hg2 hcap2 HA HOL
  have hpl : b2 / 8 < F.length := by rw [HFL.out, HQJ.out.1]; exact hqm
  obtain ⟨by9, hbv⟩ : ∃ b, F[b2 / 8]'hpl = b := ⟨_, rfl⟩
  have HST := Lib.hid (vals_turn F b2 hpl by9 hbv)
  have hcell : x1.cell? ⟨g2, q, none⟩ = some (.int .u8 (by9.toNat : Int)) := by
    rw [← HQJ.out.1, HO5'.out.cellAt (b2 / 8) (by rw [HQJ.out.1]; omega), List.getElem?_eq_getElem (by rw [vals_length]; exact hpl), vals_at _ _ hpl, hbv]
  have hfro : x1.frozen? ⟨g2, q, none⟩ = false := HO5'.out.frozenAt _
  have HST2 : Hid ((vals F).set q (.int .u8 ((by9 ^^^ UInt8.ofNat (2 ^ j)).toNat : Int)) = vals (turnB F b2)) := by
    have h := HST.out
    rw [HQJ.out.1, HQJ.out.2] at h
    exact h
  have hqj1 := HQJ.out.1
  have hqj2 := HQJ.out.2
  have hw2 : Int.tdiv (b2 : Int) 8 = (q : Int) := by rw [Int.tdiv_eq_ediv_of_nonneg (by omega)]; omega
  have hw3 : IntKind.i64.wrap (q : Int) = (q : Int) := IntWalk.i64_in _ (by omega)
  have hw4 : Int.tmod (b2 : Int) 8 = (j : Int) := by rw [Int.tmod_eq_emod_of_nonneg (by omega)]; omega
  have hw5 : IntKind.i64.wrap (j : Int) = (j : Int) := IntWalk.i64_in _ (by omega)
  have hqz : (0 : Int) ≤ (q : Int) := by omega
  have hq1 : (q : Int) < (m : Int) + 8 := by omega
  clear hbv hpl hqj1 hqj2
  go_still_tail 13, (by kernel_rfl)
  rw [xor_bit by9 j hj8]
  change wpList _ _ _ _ _ x1.drew
  have hcell2 : x1.drew.cell? ⟨g2, q, none⟩ = some (.int .u8 (by9.toNat : Int)) := hcell
  have hfro2 : x1.drew.frozen? ⟨g2, q, none⟩ = false := hfro
  have HOd : Hid (x1.drew.ownsRow w8.heap.size 5 1 (.slice (some ⟨g2, 0, none⟩) (m + 8) cap2) (m + 8) (vals F)) := HO5'.out
  have HBd : Hid (Below w8.heap.size w8 x1.drew) := HBa.out.drew
  clear hcell hfro HO5' HBa hw2 hw3 hw4 hw5
  generalize x1.drew = wd at *
  have ho6 := (HOd.out.stored q (.int .u8 ((by9 ^^^ UInt8.ofNat (2 ^ j)).toNat : Int))).1
  rw [HST2.out] at ho6
  have hb : Below w8.heap.size w8 (wd.setCell ⟨g2, q, none⟩ (.int .u8 ((by9 ^^^ UInt8.ofNat (2 ^ j)).toNat : Int))) := HBd.out.setCell (by have := HG2.out; show w8.heap.size ≤ g2; omega) _
  have HB9 := Lib.hid (HB8.out.trans (hb.mono HB8.out.size))
  have VO := Lib.hid (IsB.of_own ho6)
  replace HTW := Lib.hid (HTW.out.bel hb)
  replace VB := Lib.hid (VB.out.bel hb)
  clear hb ho6 HOd HBd HG2 HST HST2 HB8
  go_wp2_with fail
  refine (C1.out _ _ VO.out HTW).mono ?_
  rintro e1 w10 ⟨yv, rfl, hv, hb⟩
  have HB10 := Lib.hid (HB9.out.trans (hb.mono HB9.out.size))
  replace HTW := Lib.hid (HTW.out.bel hb)
  replace VB := Lib.hid (VB.out.bel hb)
  replace VO := Lib.hid (VO.out.bel hb)
  have VY := Lib.hid (hv)
  clear hb HB9
  clear hv C1 hcell2 hfro2
  obtain ⟨AY, cY, rfl, _, _, _⟩ := VY.out.slice
  simp only [List.length_nil] at VY ⊢
  clear VO VY
  go_upto_region 11 with fail
  obtain ⟨w11, hW⟩ : ∃ W, w10.alloc (.cells #[.slice AY 0 cY] 24) = W := ⟨_, rfl⟩
  obtain ⟨O1, hG⟩ : ∃ G, w10.heap.size = G := ⟨_, rfl⟩
  rw [hW, hG]
  have hb : Below w10.heap.size w10 w11 := by subst hW; exact (Below.refl _ _).alloc (Nat.le_refl _) _
  have HB11 := Lib.hid (HB10.out.trans (hb.mono HB10.out.size))
  have LO1 : Hid (w.heap.size ≤ O1) := by subst hG; exact HB10.out.size
  replace HTW := Lib.hid (HTW.out.bel hb)
  replace VB := Lib.hid (VB.out.bel hb)
  have KO1 : Hid (Blk O1 #[.slice AY 0 cY] 24 w11) := by subst hW hG; exact Blk.new _ _ _
  clear hb hW hG HB10
  have hdv : (b2 : Int) / 8 = (q : Int) := by have := HQJ.out.1; omega
  have VT2 : Hid (IsB w11 (.slice Ab q cb) (F.take q)) := by
    obtain ⟨_, _, _, e, k1, k2, k3, h⟩ := VB.out
    injection e with e1 e2 e3
    subst e1 e2 e3
    refine ⟨_, _, _, rfl, by omega, k2, by rw [List.length_take, k3]; omega, ?_⟩
    rw [vals_take]
    exact h.take q
  go_wp2_with fail
  refine (C2.out _ w11 VT2.out HTW).mono ?_
  rintro e1 w12 ⟨zv, rfl, hv, hb⟩
  have HB12 := Lib.hid (HB11.out.trans (hb.mono HB11.out.size))
  replace HTW := Lib.hid (HTW.out.bel hb)
  replace VB := Lib.hid (VB.out.bel hb)
  replace KO1 := Lib.hid (KO1.out.bel hb)
  replace VT2 := Lib.hid (VT2.out.bel hb)
  have VZ := Lib.hid (hv)
  clear hb HB11
  clear hv C2
  obtain ⟨AZ, cZ, rfl, _, _, _⟩ := VZ.out.slice
  simp only [List.length_nil] at VZ ⊢
  clear VT2 VZ
  go_upto_region 12 with fail
  obtain ⟨w13, hW⟩ : ∃ W, w12.alloc (.cells #[.slice AZ 0 cZ] 24) = W := ⟨_, rfl⟩
  obtain ⟨O2, hG⟩ : ∃ G, w12.heap.size = G := ⟨_, rfl⟩
  rw [hW, hG]
  have hb : Below w12.heap.size w12 w13 := by subst hW; exact (Below.refl _ _).alloc (Nat.le_refl _) _
  have HB13 := Lib.hid (HB12.out.trans (hb.mono HB12.out.size))
  have LO2 : Hid (w.heap.size ≤ O2) := by subst hG; exact HB12.out.size
  have NO1O2 : Hid (O1 < O2) := by subst hG; exact KO1.out.size
  replace HTW := Lib.hid (HTW.out.bel hb)
  replace VB := Lib.hid (VB.out.bel hb)
  replace KO1 := Lib.hid (KO1.out.bel hb)
  have KO2 : Hid (Blk O2 #[.slice AZ 0 cZ] 24 w13) := by subst hW hG; exact Blk.new _ _ _
  clear hb hW hG HB12
  have HM4 : Hid (Has w13 (cutA Ab cb 4 1) (vals (bodyB T))) := by
    obtain ⟨_, _, _, e, k1, k2, k3, h⟩ := VB.out
    injection e with e1 e2 e3
    subst e1 e2 e3
    show Has _ _ _
    rw [← HMID.out, vals_drop, vals_take]
    exact (h.take (m + 8 - 4)).cutA (by rw [List.length_take]; omega)
  have HOL := Lib.hid (World.ownsRow_lit (e := 5) (size := 1) w13 #[] 0 (Nat.le_refl _) (by decide) rfl)
  go_wp2_with (first
    | (
      at_builtin
      refine wpList_append_has _ rfl (.tmp 91) (.tmp 96) _ rfl w13.heap.size 5 i0 (.int .u8 0) 1 Tryd.underlying25 hi0 hz0 hz1 hz2 rfl (.slice (some ⟨w13.heap.size, 0, none⟩) 0 0) 0 [] rfl HOL.out (cutA Ab cb 4 1) (m + 8 - 4 - 4) (cb - 4) (vals (bodyB T)) rfl (by rw [vals_length, HML.out]; omega) (HM4.out.alloc _) (vals_one _) (by unfold maxLen; omega) (by omega) (by simp) ?_
      intro v6 y1 hown hgrow _
      have HO1 : Hid (y1.ownsRow w13.heap.size 5 1 v6 m (vals (bodyB T))) := by
        have h := hown
        rw [List.nil_append, show 0 + (m + 8 - 4 - 4) = m by omega] at h
        exact h
      have HBb : Hid (Below w13.heap.size w13 y1) := ((Below.refl _ _).alloc (Nat.le_refl _) _).grown hgrow (by simp) (fun q hq => (HOL.out.lt q hq).1)
      clear hown hgrow HOL HM4)
    | (
      at_builtin
      obtain ⟨y2, hW⟩ : ∃ W, y1.alloc (.cells #[.int .u8 (c.toNat : Int)] 5) = W := ⟨_, rfl⟩
      obtain ⟨q3, hG⟩ : ∃ G, y1.heap.size = G := ⟨_, rfl⟩
      rw [hW, hG]
      have hbl : Below y1.heap.size y1 y2 := by subst hW; exact (Below.refl _ _).alloc (Nat.le_refl _) _
      have k3 : Blk q3 #[.int .u8 (c.toNat : Int)] 5 y2 := by subst hW hG; exact Blk.new _ _ _
      have hv3 := k3.isB (bs := [c]) rfl rfl (by decide) (n := 1)
      have hh3 : Has y2 (some ⟨q3, 0, none⟩) (vals [c]) := by
        obtain ⟨_, _, _, e, _, _, _, h⟩ := hv3
        injection e with e1 e2 e3
        subst e1
        exact h
      have hs2 : w13.heap.size ≤ y2.heap.size := by have h1 := HBb.out.size; have h2 := hbl.size; omega
      refine wpList_append_has _ rfl (.tmp 97) (.tmp 99) _ rfl w13.heap.size 5 i0 (.int .u8 0) 1 Tryd.underlying25 hi0 hz0 hz1 hz2 rfl v6 m (vals (bodyB T)) rfl (own_bel HO1.out hbl) (some ⟨q3, 0, none⟩) 1 1 (vals [c]) rfl rfl hh3 (vals_one _) (by unfold maxLen; omega) (by omega) hs2 ?_
      intro vz w14 hown hgrow _
      have VZ : Hid (IsB w14 vz (bodyB T ++ [c])) := by
        have h := hown
        rw [← vals_append] at h
        exact IsB.of_own h
      have hb : Below w13.heap.size w13 w14 := (HBb.out.trans (hbl.mono HBb.out.size)).grown hgrow hs2 (own_from (own_bel HO1.out hbl))
      have HB14 := Lib.hid (HB13.out.trans (hb.mono HB13.out.size))
      replace HTW := Lib.hid (HTW.out.bel hb)
      replace KO1 := Lib.hid (KO1.out.bel hb)
      replace KO2 := Lib.hid (KO2.out.bel hb)
      clear hb hown hgrow hW hG hbl k3 hv3 hh3 hs2 HO1 HBb VB))
  refine (fput_any 1179206193 _ (bodyB T ++ [c]) w14 (by decide) VZ.out (by rw [List.length_append, HML.out]; simp; omega) HTW).mono ?_
  rintro e1 w15 ⟨fz, rfl, ho, hb⟩
  have HB15 := Lib.hid (HB14.out.trans (hb.mono HB14.out.size))
  replace HTW := Lib.hid (HTW.out.bel hb)
  replace KO1 := Lib.hid (KO1.out.bel hb)
  replace KO2 := Lib.hid (KO2.out.bel hb)
  replace VZ := Lib.hid (VZ.out.bel hb)
  have VF := Lib.hid (fput_isb ho)
  clear hb HB14
  rw [HG3.out] at VF
  clear ho
  clear VZ
  go_wp2_with fail
  refine (C3.out _ w15 VF.out HTW).mono ?_
  rintro e1 w16 ⟨uv, rfl, hv, hb⟩
  have HB16 := Lib.hid (HB15.out.trans (hb.mono HB15.out.size))
  replace HTW := Lib.hid (HTW.out.bel hb)
  replace KO1 := Lib.hid (KO1.out.bel hb)
  replace KO2 := Lib.hid (KO2.out.bel hb)
  replace VF := Lib.hid (VF.out.bel hb)
  have VU := Lib.hid (hv)
  clear hb HB15
  clear hv C3
  obtain ⟨AU, cU, rfl, _, _, _⟩ := VU.out.slice
  simp only [List.length_nil] at VU ⊢
  clear VF VU
  go_upto_region 13 with fail
  obtain ⟨w17, hW⟩ : ∃ W, w16.alloc (.cells #[.slice AU 0 cU] 24) = W := ⟨_, rfl⟩
  obtain ⟨O3, hG⟩ : ∃ G, w16.heap.size = G := ⟨_, rfl⟩
  rw [hW, hG]
  have hb : Below w16.heap.size w16 w17 := by subst hW; exact (Below.refl _ _).alloc (Nat.le_refl _) _
  have HB17 := Lib.hid (HB16.out.trans (hb.mono HB16.out.size))
  have LO3 : Hid (w.heap.size ≤ O3) := by subst hG; exact HB16.out.size
  have NO1O3 : Hid (O1 < O3) := by subst hG; exact KO1.out.size
  have NO2O3 : Hid (O2 < O3) := by subst hG; exact KO2.out.size
  replace HTW := Lib.hid (HTW.out.bel hb)
  replace KO1 := Lib.hid (KO1.out.bel hb)
  replace KO2 := Lib.hid (KO2.out.bel hb)
  have KO3 : Hid (Blk O3 #[.slice AU 0 cU] 24 w17) := by subst hW hG; exact Blk.new _ _ _
  clear hb hW hG HB16
  have qO20 := KO2.out.cell 0 rfl
  rcases HE1.out with rfl | rfl
  · go_wp2_with fail
    go_ret
    exact ⟨rfl, HB17.out⟩
  · go_wp2_with fail
    go_ret
    exact ⟨rfl, HB17.out⟩
end Go.Proofs.YtohggpaffmcfoaaDoor
