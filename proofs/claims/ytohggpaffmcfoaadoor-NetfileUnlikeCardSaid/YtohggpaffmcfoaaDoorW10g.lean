/- The walk of theseuslaw10.NetfileUnlike. -/
import Derived.Test.YtohggpaffmcfoaaDoorL10
import Derived.Test.YtohggpaffmcfoaaDoorSame
import Derived.Deep.DeepCutAuto
import Derived.Deep.RegionHeld3
namespace Go.Proofs.YtohggpaffmcfoaaDoor
open Go.RowKit
set_option linter.unusedVariables false
set_option maxRecDepth 100000
set_option linter.unusedSimpArgs false

set_option maxRecDepth 100000 in
set_option maxHeartbeats 8000000 in
theorem walkNetfileUnlike (a0 : Option Addr) (n0 c0 : Nat) (l0 : Nt) (a1 : Option Addr) (n1 c1 : Nat) (l1 : Nt) (w : World) (ht : Hid (Tab w)) (w0 : InNet w a0 n0 c0 l0) (w1 : InNet w a1 n1 c1 l1) :
    Calls Tryd.prog 9 #[.agg #[.slice a0 n0 c0], .agg #[.slice a1 n1 c1]] w fun e w' => e = .returned (.bool true) ∧ Below w.heap.size w w' := by
  have hwf0 := w0.wf
  have VR0 := Lib.hid w0.isn
  obtain ⟨T, F, hT0, hmT, hwT, hnT, h1T, hlT, hsT, hFT, hLT, hBT, hkT, hpT⟩ := fit_facts l0 hwf0
  have FTT := Lib.hid (fun v w hv => rfitN_any v l0 w hv hwf0)
  rw [hT0] at FTT
  have CPT := Lib.hid (fun v w hv ht => put10 v T F w hv hsT hwT hpT ht)
  have HMT := Lib.hid hmT
  have HWT := Lib.hid hwT
  have HFT := Lib.hid hFT
  have HLT := Lib.hid hLT
  have HBT := Lib.hid hBT
  have HKT := Lib.hid hkT
  have HGT := Lib.hid hlT
  have HST := Lib.hid hsT
  obtain ⟨NT, hNT⟩ : ∃ n, T.length = n := ⟨_, rfl⟩
  rw [hNT] at hnT h1T
  have HNT := Lib.hid hNT
  have hn8T : (NT : Int) ≤ 8 := by omega
  have hn1T : 1 ≤ (NT : Int) := by omega
  clear hwf0 w0 hT0 hmT hwT hlT hsT hFT hLT hBT hkT hpT hNT h1T hnT
  have hwf1 := w1.wf
  have VR1 := Lib.hid w1.isn
  obtain ⟨U, E, hT1, hmU, hwU, hnU, h1U, hlU, hsU, hFU, hLU, hBU, hkU, hpU⟩ := fit_facts l1 hwf1
  have FTU := Lib.hid (fun v w hv => rfitN_any v l1 w hv hwf1)
  rw [hT1] at FTU
  have CPU := Lib.hid (fun v w hv ht => put10 v U E w hv hsU hwU hpU ht)
  have HMU := Lib.hid hmU
  have HWU := Lib.hid hwU
  have HFU := Lib.hid hFU
  have HLU := Lib.hid hLU
  have HBU := Lib.hid hBU
  have HKU := Lib.hid hkU
  have HGU := Lib.hid hlU
  have HSU := Lib.hid hsU
  obtain ⟨NU, hNU⟩ : ∃ n, U.length = n := ⟨_, rfl⟩
  rw [hNU] at hnU h1U
  have HNU := Lib.hid hNU
  have hn8U : (NU : Int) ≤ 8 := by omega
  have hn1U : 1 ≤ (NU : Int) := by omega
  clear hwf1 w1 hT1 hmU hwU hlU hsU hFU hLU hBU hkU hpU hNU h1U hnU
  have HTW := ht
  clear ht
  obtain ⟨r, hr⟩ : ∃ r : Bool, (r = true ↔ T = U) := by
    by_cases h : T = U
    · exact ⟨true, by simp [h]⟩
    · exact ⟨false, by simp [h]⟩
  have hq : ∀ q : Bool, (q = true ↔ T = U) → q = r := fun q h => by rw [Bool.eq_iff_iff, h, hr]
  have hfe : (F == E) = r := by
    rw [Bool.eq_iff_iff, beq_iff_eq, hr]
    constructor
    · intro h
      have h1 := HKT.out
      rw [h, HKU.out] at h1
      exact (congrArg Prod.fst h1).symm
    · rintro rfl
      exact HFT.out.symm.trans HFU.out
  have HQQ := Lib.hid hq
  clear hr hq
  have HB0 := Lib.hid (Below.refl w.heap.size w)
  go_enter Tryd.func9, Tryd.ntmps9
  go_wp2_with fail
  obtain ⟨w1, hW⟩ : ∃ W, (w.alloc (.cells #[.slice a0 n0 c0] 24)).alloc (.cells #[.slice a1 n1 c1] 24) = W := ⟨_, rfl⟩
  obtain ⟨g, hG⟩ : ∃ G, w.heap.size = G := ⟨_, rfl⟩
  obtain ⟨h, hH⟩ : ∃ H, g + 1 = H := ⟨_, rfl⟩
  rw [hW, hG, hH]
  have hb : Below w.heap.size w w1 := by subst hW; exact ((Below.refl _ _).alloc (Nat.le_refl _) _).alloc (by simp only [World.size_alloc]; omega) _
  have HB1 := Lib.hid (HB0.out.trans (hb.mono HB0.out.size))
  have Lg : Hid (w.heap.size ≤ g) := by subst hG; exact HB0.out.size
  have Lh : Hid (w.heap.size ≤ h) := by subst hG hH; show _ ≤ _; have := HB0.out.size; omega
  replace VR0 := Lib.hid (VR0.out.bel hb)
  replace VR1 := Lib.hid (VR1.out.bel hb)
  replace HTW := Lib.hid (HTW.out.bel hb)
  have Kg : Hid (Blk g #[.slice a0 n0 c0] 24 w1) := by subst hW hG; exact (Blk.new _ _ _).bel ((Below.refl _ _).alloc (Nat.le_refl _) _)
  have Kh : Hid (Blk h #[.slice a1 n1 c1] 24 w1) := by
    subst hW hG hH
    have h := Blk.new (w.alloc (.cells #[.slice a0 n0 c0] 24)) #[.slice a1 n1 c1] 24
    rw [World.size_alloc] at h
    exact h
  clear hb hW hG hH HB0
  refine (shown10 w1 HTW).mono ?_
  rintro e1 w2 ⟨rfl, hb⟩
  have HB2 := Lib.hid (HB1.out.trans (hb.mono HB1.out.size))
  replace VR0 := Lib.hid (VR0.out.bel hb)
  replace VR1 := Lib.hid (VR1.out.bel hb)
  replace HTW := Lib.hid (HTW.out.bel hb)
  replace Kg := Lib.hid (Kg.out.bel hb)
  replace Kh := Lib.hid (Kh.out.bel hb)
  clear hb HB1
  have qg0 := Kg.out.cell 0 rfl
  go_wp2_with fail
  refine (FTT.out _ w2 VR0.out).mono ?_
  rintro e1 w3 ⟨tvT, rfl, hown, hb⟩
  clear qg0
  have HB3 := Lib.hid (HB2.out.trans (hb.mono HB2.out.size))
  replace VR0 := Lib.hid (VR0.out.bel hb)
  replace VR1 := Lib.hid (VR1.out.bel hb)
  replace HTW := Lib.hid (HTW.out.bel hb)
  replace Kg := Lib.hid (Kg.out.bel hb)
  replace Kh := Lib.hid (Kh.out.bel hb)
  have VT := Lib.hid (hown)
  clear hb HB2
  clear hown FTT
  obtain ⟨AT, cT, rfl, hcT, _, _⟩ := VT.out.slice
  rw [HNT.out] at hcT
  have hc2T : (NT : Int) ≤ (cT : Int) := by omega
  simp only [HNT.out] at VT ⊢
  clear hcT
  clear Kg
  go_upto_region 3 with fail
  obtain ⟨w4, hW⟩ : ∃ W, w3.alloc (.cells #[.slice AT NT cT] 24) = W := ⟨_, rfl⟩
  obtain ⟨B, hG⟩ : ∃ G, w3.heap.size = G := ⟨_, rfl⟩
  rw [hW, hG]
  have hb : Below w3.heap.size w3 w4 := by subst hW; exact (Below.refl _ _).alloc (Nat.le_refl _) _
  have HB4 := Lib.hid (HB3.out.trans (hb.mono HB3.out.size))
  have LB : Hid (w.heap.size ≤ B) := by subst hG; exact HB3.out.size
  have NhB : Hid (h < B) := by subst hG; exact Kh.out.size
  replace VR0 := Lib.hid (VR0.out.bel hb)
  replace VR1 := Lib.hid (VR1.out.bel hb)
  replace HTW := Lib.hid (HTW.out.bel hb)
  replace Kh := Lib.hid (Kh.out.bel hb)
  replace VT := Lib.hid (VT.out.bel hb)
  have KB : Hid (Blk B #[.slice AT NT cT] 24 w4) := by subst hW hG; exact Blk.new _ _ _
  clear hb hW hG HB3
  have qh0 := Kh.out.cell 0 rfl
  go_wp2_with fail
  refine (FTU.out _ w4 VR1.out).mono ?_
  rintro e1 w5 ⟨tvU, rfl, hown, hb⟩
  clear qh0
  have HB5 := Lib.hid (HB4.out.trans (hb.mono HB4.out.size))
  replace VR0 := Lib.hid (VR0.out.bel hb)
  replace VR1 := Lib.hid (VR1.out.bel hb)
  replace HTW := Lib.hid (HTW.out.bel hb)
  replace Kh := Lib.hid (Kh.out.bel hb)
  replace VT := Lib.hid (VT.out.bel hb)
  replace KB := Lib.hid (KB.out.bel hb)
  have VU := Lib.hid (hown)
  clear hb HB4
  clear hown FTU
  obtain ⟨AU, cU, rfl, hcU, _, _⟩ := VU.out.slice
  rw [HNU.out] at hcU
  have hc2U : (NU : Int) ≤ (cU : Int) := by omega
  simp only [HNU.out] at VU ⊢
  clear hcU
  clear Kh
  go_upto_region 4 with fail
  obtain ⟨w6, hW⟩ : ∃ W, w5.alloc (.cells #[.slice AU NU cU] 24) = W := ⟨_, rfl⟩
  obtain ⟨D, hG⟩ : ∃ G, w5.heap.size = G := ⟨_, rfl⟩
  rw [hW, hG]
  have hb : Below w5.heap.size w5 w6 := by subst hW; exact (Below.refl _ _).alloc (Nat.le_refl _) _
  have HB6 := Lib.hid (HB5.out.trans (hb.mono HB5.out.size))
  have LD : Hid (w.heap.size ≤ D) := by subst hG; exact HB5.out.size
  have NBD : Hid (B < D) := by subst hG; exact KB.out.size
  replace VR0 := Lib.hid (VR0.out.bel hb)
  replace VR1 := Lib.hid (VR1.out.bel hb)
  replace HTW := Lib.hid (HTW.out.bel hb)
  replace VT := Lib.hid (VT.out.bel hb)
  replace KB := Lib.hid (KB.out.bel hb)
  replace VU := Lib.hid (VU.out.bel hb)
  have KD : Hid (Blk D #[.slice AU NU cU] 24 w6) := by subst hW hG; exact Blk.new _ _ _
  clear hb hW hG HB5
  have qB0 := KB.out.cell 0 rfl
  go_wp2_with fail
  refine (CPT.out _ w6 VT.out HTW).mono ?_
  rintro e1 w7 ⟨bv, rfl, hv, hb⟩
  clear qB0
  have HB7 := Lib.hid (HB6.out.trans (hb.mono HB6.out.size))
  replace VR0 := Lib.hid (VR0.out.bel hb)
  replace VR1 := Lib.hid (VR1.out.bel hb)
  replace HTW := Lib.hid (HTW.out.bel hb)
  replace VT := Lib.hid (VT.out.bel hb)
  replace KB := Lib.hid (KB.out.bel hb)
  replace VU := Lib.hid (VU.out.bel hb)
  replace KD := Lib.hid (KD.out.bel hb)
  have VB := Lib.hid (hv)
  clear hb HB6
  clear hv CPT
  have qD0 := KD.out.cell 0 rfl
  go_wp2_with fail
  refine (CPU.out _ w7 VU.out HTW).mono ?_
  rintro e1 w8 ⟨cv, rfl, hv, hb⟩
  clear qD0
  have HB8 := Lib.hid (HB7.out.trans (hb.mono HB7.out.size))
  replace VR0 := Lib.hid (VR0.out.bel hb)
  replace VR1 := Lib.hid (VR1.out.bel hb)
  replace HTW := Lib.hid (HTW.out.bel hb)
  replace VT := Lib.hid (VT.out.bel hb)
  replace KB := Lib.hid (KB.out.bel hb)
  replace VU := Lib.hid (VU.out.bel hb)
  replace KD := Lib.hid (KD.out.bel hb)
  replace VB := Lib.hid (VB.out.bel hb)
  have VC := Lib.hid (hv)
  clear hb HB7
  clear hv CPU
  go_upto_region 6 with fail
  have HQ : Hid (∀ w', Below w8.heap.size w8 w' → (convert 25 9 bv).run Tryd.prog w' = .ok (.string ⟨F.toArray⟩) w' ∧ (convert 25 9 cv).run Tryd.prog w' = .ok (.string ⟨E.toArray⟩) w' ∧ w'.cell? ⟨B, 0, none⟩ = some (.slice AT NT cT) ∧ w'.cell? ⟨D, 0, none⟩ = some (.slice AU NU cU)) := fun w' hx => ⟨str_in (VB.out.bel hx), str_in (VC.out.bel hx), (KB.out.bel hx).cell 0 rfl, (KD.out.bel hx).cell 0 rfl⟩
  have HD := Lib.hid (Below.refl w8.heap.size w8).drew
  obtain ⟨s1, s2, s3, s4⟩ := HQ.out _ HD.out
  go_region_held3 (fun w' => (convert 25 9 bv).run Tryd.prog w' = .ok (.string ⟨F.toArray⟩) w' ∧ (convert 25 9 cv).run Tryd.prog w' = .ok (.string ⟨E.toArray⟩) w' ∧ w'.cell? ⟨B, 0, none⟩ = some (.slice AT NT cT) ∧ w'.cell? ⟨D, 0, none⟩ = some (.slice AU NU cU))
    (first | go_keep | exact HQ.out _ HD.out | exact HQ.out _ D1.out)
    (first
      | (go_simp; go_at_call 17; (with_reducible refine (rsame9_any _ _ T U _ (VT.out.bel HD.out) (VU.out.bel HD.out)).mono ?_); rintro e8 w8 ⟨q, rfl, hq, hb8⟩; have D1 := Lib.hid (HD.out.trans (hb8.mono HD.out.size)); obtain rfl := HQQ.out q hq; clear hb8 hq))
  all_goals
    go_wp2_with fail
    go_ret
    exact ⟨rfl, HB8.out.trans (D1.out.mono HB8.out.size)⟩
end Go.Proofs.YtohggpaffmcfoaaDoor
