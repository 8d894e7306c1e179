/- The walk of theseuslaw10.NetfileSize. -/
import Derived.Test.YtohggpaffmcfoaaDoorL10
import Derived.Deep.DeepCutAuto
import Derived.Deep.RegionHeld3
namespace Go.Proofs.YtohggpaffmcfoaaDoor
open Go.RowKit
set_option linter.unusedVariables false
set_option maxRecDepth 100000
set_option linter.unusedSimpArgs false

/-- so many bytes behind so many nodes -/
def wsz (N : Nt) (k : Nat) : Nat := 9 + (sectsB (N.take k)).length
theorem wsz_succ (N : Nt) (k : Nat) (hk : k < N.length) (hl : N[k].length ≤ 20) : wsz N (k + 1) = wsz N k + 2 + (1 + 8 * N[k].length) + (if 16 ≤ N[k].length then 1 else 0) := by
  unfold wsz
  rw [sectsB_take_succ N k hk, List.length_append, sectB_length, nodeB_length]
  have h1 : gsize N[k].length = 1 := by unfold gsize; rw [if_pos (by omega)]
  rw [h1]
  generalize N[k].length = L at *
  have h2 : gsize (1 + 8 * L) = 1 + (if 16 ≤ L then 1 else 0) := by
    unfold gsize
    by_cases h : 16 ≤ L
    · rw [if_neg (by omega), if_pos (by omega), if_pos h]
    · rw [if_pos (by omega), if_neg h]
  rw [h2]
  omega
theorem wsz_le (N : Nt) (k : Nat) (hk : k ≤ 8) (hl : ∀ l ∈ N, l.length ≤ 20) : wsz N k ≤ 2000 := by
  have h1 := sectsB_le (N.take k)
  have h2 := szN_take_le N k
  have h3 : szN (N.take k) ≤ (N.take k).length * 20 := szN_bound fun l h => hl l (List.mem_of_mem_take h)
  have h4 : (N.take k).length * 20 ≤ 8 * 20 := Nat.mul_le_mul_right 20 (by rw [List.length_take]; omega)
  have h5 : (N.take k).length ≤ 8 := by rw [List.length_take]; omega
  unfold wsz
  omega
theorem wsz_end {N : Nt} (h : N.length ≤ 8) : wsz N N.length = (bodyB N).length + 8 := by
  unfold wsz bodyB
  rw [List.take_length, List.length_append, grp_length]
  have h1 : gsize N.length = 1 := by unfold gsize; rw [if_pos (by omega)]
  omega
theorem isN_isS {w : World} {s : Value} {N : Nt} (h : IsN w (.agg #[s]) N) : IsS w s N := by
  obtain ⟨s', e, h1⟩ := h
  injection e with e
  simp at e
  subst e
  exact h1
set_option maxRecDepth 100000 in
set_option maxHeartbeats 8000000 in
theorem walkNetfileSize (a0 : Option Addr) (n0 c0 : Nat) (l0 : Nt) (w : World) (ht : Hid (Tab w)) (w0 : InNet w a0 n0 c0 l0) :
    Calls Tryd.prog 6 #[.agg #[.slice a0 n0 c0]] w fun e w' => e = .returned (.bool true) ∧ Below w.heap.size w w' := by
  have hwf0 := w0.wf
  have VR0 := Lib.hid w0.isn
  obtain ⟨T, F, hT0, hmT, hwT, hnT, h1T, hlT, hsT, hFT, hLT, hBT, hkT, hpT⟩ := fit_facts l0 hwf0
  have FTT := Lib.hid (fun v w hv => rfitN_any v l0 w hv hwf0)
  rw [hT0] at FTT
  have CPT := Lib.hid (fun v w hv ht => put10 v T F w hv hsT hwT hpT ht)
  have HMT := Lib.hid hmT
  have HWT := Lib.hid hwT
  have HFT := Lib.hid hFT
  have HLT := Lib.hid hLT
  have HBT := Lib.hid hBT
  have HKT := Lib.hid hkT
  have HGT := Lib.hid hlT
  have HST := Lib.hid hsT
  obtain ⟨NT, hNT⟩ : ∃ n, T.length = n := ⟨_, rfl⟩
  rw [hNT] at hnT h1T
  have HNT := Lib.hid hNT
  have hn8T : (NT : Int) ≤ 8 := by omega
  have hn1T : 1 ≤ (NT : Int) := by omega
  clear hwf0 w0 hT0 hmT hwT hlT hsT hFT hLT hBT hkT hpT hNT h1T hnT
  have HTW := ht
  clear ht
  have hE : wsz T NT = F.length := by
    rw [HLT.out, ← HNT.out]
    exact wsz_end (by rw [HNT.out]; omega)
  have HE := Lib.hid hE
  have HZ := Lib.hid (fun k hk => wsz_succ T k hk (HGT.out _ (List.getElem_mem hk)))
  have HZL := Lib.hid (fun k (hk : k ≤ 8) => wsz_le T k hk HGT.out)
  clear hE
  have HB0 := Lib.hid (Below.refl w.heap.size w)
  go_enter Tryd.func6, Tryd.ntmps6
  go_wp2_with fail
  obtain ⟨w1, hW⟩ : ∃ W, w.alloc (.cells #[.slice a0 n0 c0] 24) = W := ⟨_, rfl⟩
  obtain ⟨g, hG⟩ : ∃ G, w.heap.size = G := ⟨_, rfl⟩
  rw [hW, hG]
  have hb : Below w.heap.size w w1 := by subst hW; exact (Below.refl _ _).alloc (Nat.le_refl _) _
  have HB1 := Lib.hid (HB0.out.trans (hb.mono HB0.out.size))
  have Lg : Hid (w.heap.size ≤ g) := by subst hG; exact HB0.out.size
  replace VR0 := Lib.hid (VR0.out.bel hb)
  replace HTW := Lib.hid (HTW.out.bel hb)
  have Kg : Hid (Blk g #[.slice a0 n0 c0] 24 w1) := by subst hW hG; exact Blk.new _ _ _
  clear hb hW hG HB0
  refine (shown10 w1 HTW).mono ?_
  rintro e1 w2 ⟨rfl, hb⟩
  have HB2 := Lib.hid (HB1.out.trans (hb.mono HB1.out.size))
  replace VR0 := Lib.hid (VR0.out.bel hb)
  replace HTW := Lib.hid (HTW.out.bel hb)
  replace Kg := Lib.hid (Kg.out.bel hb)
  clear hb HB1
  have qg0 := Kg.out.cell 0 rfl
  go_wp2_with fail
  refine (FTT.out _ w2 VR0.out).mono ?_
  rintro e1 w3 ⟨tvT, rfl, hown, hb⟩
  clear qg0
  have HB3 := Lib.hid (HB2.out.trans (hb.mono HB2.out.size))
  replace VR0 := Lib.hid (VR0.out.bel hb)
  replace HTW := Lib.hid (HTW.out.bel hb)
  replace Kg := Lib.hid (Kg.out.bel hb)
  have VT := Lib.hid (hown)
  clear hb HB2
  clear hown FTT
  obtain ⟨AT, cT, rfl, hcT, _, _⟩ := VT.out.slice
  rw [HNT.out] at hcT
  have hc2T : (NT : Int) ≤ (cT : Int) := by omega
  simp only [HNT.out] at VT ⊢
  clear hcT
  clear Kg
  go_upto_region 3 with fail
  obtain ⟨w4, hW⟩ : ∃ W, w3.alloc (.cells #[.slice AT NT cT] 24) = W := ⟨_, rfl⟩
  obtain ⟨B, hG⟩ : ∃ G, w3.heap.size = G := ⟨_, rfl⟩
  rw [hW, hG]
  have hb : Below w3.heap.size w3 w4 := by subst hW; exact (Below.refl _ _).alloc (Nat.le_refl _) _
  have HB4 := Lib.hid (HB3.out.trans (hb.mono HB3.out.size))
  have LB : Hid (w.heap.size ≤ B) := by subst hG; exact HB3.out.size
  replace VR0 := Lib.hid (VR0.out.bel hb)
  replace HTW := Lib.hid (HTW.out.bel hb)
  replace VT := Lib.hid (VT.out.bel hb)
  have KB : Hid (Blk B #[.slice AT NT cT] 24 w4) := by subst hW hG; exact Blk.new _ _ _
  clear hb hW hG HB3
  have qB0 := KB.out.cell 0 rfl
  go_wp2_with fail
  refine (CPT.out _ w4 VT.out HTW).mono ?_
  rintro e1 w5 ⟨bv, rfl, hv, hb⟩
  clear qB0
  have HB5 := Lib.hid (HB4.out.trans (hb.mono HB4.out.size))
  replace VR0 := Lib.hid (VR0.out.bel hb)
  replace HTW := Lib.hid (HTW.out.bel hb)
  replace VT := Lib.hid (VT.out.bel hb)
  replace KB := Lib.hid (KB.out.bel hb)
  have VB := Lib.hid (hv)
  clear hb HB4
  clear hv CPT
  obtain ⟨Ab, nb, cb, rfl, hb1, hb2, hb3, _⟩ := VB.out
  rw [hb3] at HE
  have hnb : (nb : Int) ≤ 9223372036854775807 := by unfold maxLen at hb2; omega
  clear hb1 hb2 hb3 VB
  generalize w5 = wz at *
  go_upto_region 6 with fail
  go_loopw [7, 8] (fun s i wr => ∃ k : Nat, k ≤ NT ∧ i = .int .i64 k ∧ s = .int .i64 (wsz T k : Int) ∧ wr = wz) (fun _ i _ => NT - (intOf i).toNat)
  case atStart => exact ⟨0, by omega, rfl, rfl, rfl⟩
  case round =>
    obtain ⟨k, hk, rfl, rfl, hw⟩ := hrel
    rw [hw]
    clear hw wr
    have q0 := KB.out.cell 0 rfl
    by_cases hlt : k < NT
    · have hki : (k : Int) < (NT : Int) := by omega
      have hkl : k < T.length := by rw [HNT.out]; exact hlt
      have hz := HZ.out k hkl
      have hz1 := HZL.out k (by omega)
      have hz2 := HZL.out (k + 1) (by omega)
      have hl20 := HGT.out _ (List.getElem_mem hkl)
      obtain ⟨ad, Bk, mk, rfl, hcell, hm1, hm2, _⟩ := (isN_isS VT.out).at_ k hkl
      obtain ⟨L, hL⟩ : ∃ L, T[k].length = L := ⟨_, rfl⟩
      rw [hL] at hz hl20 hcell hm1
      obtain ⟨s, hs⟩ : ∃ s, wsz T k = s := ⟨_, rfl⟩
      obtain ⟨s', hs'⟩ : ∃ s, wsz T (k + 1) = s := ⟨_, rfl⟩
      have HS' := Lib.hid hs'
      rw [hs] at hz hz1 ⊢
      rw [hs'] at hz hz2
      clear hL hs hs'
      have hL2 : (L : Int) ≤ 20 := by omega
      have hs1 : (s : Int) ≤ 2000 := by omega
      have e1 : IntKind.i64.wrap (8 * (L : Int)) = ((8 * L : Nat) : Int) := by rw [IntKind.wrap_i64]; omega
      by_cases h16 : 16 ≤ L
      · rw [if_pos h16] at hz
        have h128 : (128 : Int) ≤ 1 + 8 * (L : Int) := by omega
        have hz3 : (s' : Int) = (s : Int) + 2 + (1 + 8 * (L : Int)) + 1 := by omega
        go_wp2_with fail
        go_roundw
        case rel => exact ⟨k + 1, by omega, by go_num, by rw [HS'.out]; go_num, by trivial⟩
        case measure => simp [intOf]; omega
      · rw [if_neg h16] at hz
        have h128 : 1 + 8 * (L : Int) < 128 := by omega
        have hz3 : (s' : Int) = (s : Int) + 2 + (1 + 8 * (L : Int)) := by omega
        go_wp2_with fail
        go_roundw
        case rel => exact ⟨k + 1, by omega, by go_num, by rw [HS'.out]; go_num, by trivial⟩
        case measure => simp [intOf]; omega
    · obtain rfl : k = NT := by omega
      have hE := HE.out
      rw [hE]
      have tt : ((nb : Int) == (nb : Int)) = true := by simp
      go_wp2_with fail
      go_ret
      exact ⟨rfl, HB5.out⟩
end Go.Proofs.YtohggpaffmcfoaaDoor
