/- The walk of theseuslaw10.NetfileParts. -/
import Derived.Test.YtohggpaffmcfoaaDoorL10
import Derived.Test.YtohggpaffmcfoaaDoorRulP
import Derived.Test.YtohggpaffmcfoaaDoorMid
import Derived.Test.YtohggpaffmcfoaaDoorRef10b
import Derived.Test.YtohggpaffmcfoaaDoorNfP
import Derived.Deep.DeepCutAuto
import Derived.Deep.RegionHeld3
namespace Go.Proofs.YtohggpaffmcfoaaDoor
open Go.RowKit
set_option linter.unusedVariables false
set_option maxRecDepth 100000
set_option linter.unusedSimpArgs false

theorem isN_isS {w : World} {s : Value} {N : Nt} (h : IsN w (.agg #[s]) N) : IsS w s N := by
  obtain ⟨s', e, h1⟩ := h
  injection e with e
  simp at e
  subst e
  exact h1
set_option maxRecDepth 100000 in
set_option maxHeartbeats 8000000 in
theorem walkNetfileParts (a0 : Option Addr) (n0 c0 : Nat) (l0 : Nt) (w : World) (ht : Hid (Tab w)) (w0 : InNet w a0 n0 c0 l0) :
    Calls Tryd.prog 7 #[.agg #[.slice a0 n0 c0]] w fun e w' => e = .returned (.bool true) ∧ Below w.heap.size w w' := by
  have hwf0 := w0.wf
  have VR0 := Lib.hid w0.isn
  obtain ⟨T, F, hT0, hmT, hwT, hnT, h1T, hlT, hsT, hFT, hLT, hBT, hkT, hpT⟩ := fit_facts l0 hwf0
  have FTT := Lib.hid (fun v w hv => rfitN_any v l0 w hv hwf0)
  rw [hT0] at FTT
  have CPT := Lib.hid (fun v w hv ht => put10 v T F w hv hsT hwT hpT ht)
  have HMT := Lib.hid hmT
  have HWT := Lib.hid hwT
  have HFT := Lib.hid hFT
  have HLT := Lib.hid hLT
  have HBT := Lib.hid hBT
  have HKT := Lib.hid hkT
  have HGT := Lib.hid hlT
  have HST := Lib.hid hsT
  obtain ⟨NT, hNT⟩ : ∃ n, T.length = n := ⟨_, rfl⟩
  rw [hNT] at hnT h1T
  have HNT := Lib.hid hNT
  have hn8T : (NT : Int) ≤ 8 := by omega
  have hn1T : 1 ≤ (NT : Int) := by omega
  clear hwf0 w0 hT0 hmT hwT hlT hsT hFT hLT hBT hkT hpT hNT h1T hnT
  have HTW := ht
  clear ht
  have HFT2 := HFT
  clear HFT
  have HFT := Lib.hid (fit_of_net HMT.out HWT.out)
  have HI := Lib.hid byte_info
  have HB0 := Lib.hid (Below.refl w.heap.size w)
  go_enter Tryd.func7, Tryd.ntmps7
  go_wp2_with fail
  obtain ⟨w1, hW⟩ : ∃ W, w.alloc (.cells #[.slice a0 n0 c0] 24) = W := ⟨_, rfl⟩
  obtain ⟨g, hG⟩ : ∃ G, w.heap.size = G := ⟨_, rfl⟩
  rw [hW, hG]
  have hb : Below w.heap.size w w1 := by subst hW; exact (Below.refl _ _).alloc (Nat.le_refl _) _
  have HB1 := Lib.hid (HB0.out.trans (hb.mono HB0.out.size))
  have Lg : Hid (w.heap.size ≤ g) := by subst hG; exact HB0.out.size
  replace VR0 := Lib.hid (VR0.out.bel hb)
  replace HTW := Lib.hid (HTW.out.bel hb)
  have Kg : Hid (Blk g #[.slice a0 n0 c0] 24 w1) := by subst hW hG; exact Blk.new _ _ _
  clear hb hW hG HB0
  refine (shown10 w1 HTW).mono ?_
  rintro e1 w2 ⟨rfl, hb⟩
  have HB2 := Lib.hid (HB1.out.trans (hb.mono HB1.out.size))
  replace VR0 := Lib.hid (VR0.out.bel hb)
  replace HTW := Lib.hid (HTW.out.bel hb)
  replace Kg := Lib.hid (Kg.out.bel hb)
  clear hb HB1
  have qg0 := Kg.out.cell 0 rfl
  go_wp2_with fail
  refine (FTT.out _ w2 VR0.out).mono ?_
  rintro e1 w3 ⟨tvT, rfl, hown, hb⟩
  clear qg0
  have HB3 := Lib.hid (HB2.out.trans (hb.mono HB2.out.size))
  replace VR0 := Lib.hid (VR0.out.bel hb)
  replace HTW := Lib.hid (HTW.out.bel hb)
  replace Kg := Lib.hid (Kg.out.bel hb)
  have VT := Lib.hid (hown)
  clear hb HB2
  clear hown FTT
  obtain ⟨AT, cT, rfl, hcT, _, _⟩ := VT.out.slice
  rw [HNT.out] at hcT
  have hc2T : (NT : Int) ≤ (cT : Int) := by omega
  simp only [HNT.out] at VT ⊢
  clear hcT
  clear Kg
  go_upto_region 3 with fail
  obtain ⟨w4, hW⟩ : ∃ W, w3.alloc (.cells #[.slice AT NT cT] 24) = W := ⟨_, rfl⟩
  obtain ⟨B, hG⟩ : ∃ G, w3.heap.size = G := ⟨_, rfl⟩
  rw [hW, hG]
  have hb : Below w3.heap.size w3 w4 := by subst hW; exact (Below.refl _ _).alloc (Nat.le_refl _) _
  have HB4 := Lib.hid (HB3.out.trans (hb.mono HB3.out.size))
  have LB : Hid (w.heap.size ≤ B) := by subst hG; exact HB3.out.size
  replace VR0 := Lib.hid (VR0.out.bel hb)
  replace HTW := Lib.hid (HTW.out.bel hb)
  replace VT := Lib.hid (VT.out.bel hb)
  have KB : Hid (Blk B #[.slice AT NT cT] 24 w4) := by subst hW hG; exact Blk.new _ _ _
  clear hb hW hG HB3
  have qB0 := KB.out.cell 0 rfl
  go_wp2_with fail
  refine (CPT.out _ w4 VT.out HTW).mono ?_
  rintro e1 w5 ⟨bv, rfl, hv, hb⟩
  clear qB0
  have HB5 := Lib.hid (HB4.out.trans (hb.mono HB4.out.size))
  replace VR0 := Lib.hid (VR0.out.bel hb)
  replace HTW := Lib.hid (HTW.out.bel hb)
  replace VT := Lib.hid (VT.out.bel hb)
  replace KB := Lib.hid (KB.out.bel hb)
  have VB := Lib.hid (hv)
  clear hb HB4
  clear hv CPT
  have HBZ := HB5
  clear HB5
  generalize w5 = wz at *
  obtain ⟨h, hh⟩ : ∃ h, wz.heap.size = h := ⟨_, rfl⟩
  have HH := Lib.hid hh
  clear hh
  have q0 := KB.out.cell 0 rfl
  go_wp2_with fail
  refine (gput_own NT wz (by omega)).mono ?_
  rintro e1 x1 ⟨v1, rfl, ho1, hb1⟩
  rw [HH.out] at ho1 hb1
  have HO1 : Hid (x1.ownsRow h 5 1 v1 (gsize NT) (vals (grp NT ++ sectsB (T.take 0)))) := by
    rw [List.take_zero]
    show x1.ownsRow _ _ _ _ _ (vals (grp NT ++ []))
    rw [List.append_nil]
    exact ho1
  have HB1 := Lib.hid hb1
  have qx := (KB.out.bel (by rw [HH.out]; exact hb1)).cell 0 rfl
  clear ho1 hb1 q0
  go_wp2_with fail
  clear qx
  go_loopw [7, 9] (fun x i wr => ∃ k : Nat, k ≤ NT ∧ i = .int .i64 k ∧ Hid (∃ m, wr.ownsRow h 5 1 x m (vals (grp NT ++ sectsB (T.take k)))) ∧ Hid (Below h wz wr)) (fun _ i _ => NT - (intOf i).toNat)
  case atStart => exact ⟨0, by omega, rfl, ⟨_, HO1.out⟩, HB1⟩
  case round =>
    clear HO1 HB1
    obtain ⟨k, hk, rfl, HO, HB⟩ := hrel
    generalize wr = wo at *
    have HBX : Hid (Below wz.heap.size wz wo) := by show Below _ _ _; rw [HH.out]; exact HB.out
    have q0 := (KB.out.bel HBX.out).cell 0 rfl
    by_cases hlt : k < NT
    · have hkl : k < T.length := by rw [HNT.out]; exact hlt
      have hki : (k : Int) < (NT : Int) := by omega
      have hkz : (0 : Int) ≤ (k : Int) := by omega
      have hkc : (k : Int) < (cT : Int) := by omega
      obtain ⟨ad, Bk, m, rfl, hlm, hmm, hr, hcl⟩ := (isN_isS VT.out).all k hkl
      have q1 := hcl wo HBX.out
      have HCL := Lib.hid hcl
      have HIR := Lib.hid hr
      obtain ⟨L, hL⟩ : ∃ L, T[k].length = L := ⟨_, rfl⟩
      have HLL := Lib.hid hL
      have hfl := HFT.out T[k] (List.getElem_mem hkl)
      have hl20 := HGT.out T[k] (List.getElem_mem hkl)
      rw [hL] at hr hcl q1 HCL HIR hlm hfl hl20
      have hLb : (L : Int) ≤ 20 := by omega
      have HFL := Lib.hid hfl.2
      clear hr hcl hL hfl hl20
      go_wp2_with fail
      refine (gput_own L wo (by omega)).mono ?_
      rintro e2 w2 ⟨v2, rfl, ho2, hb2⟩
      obtain ⟨b1, hb1'⟩ : ∃ b, wo.heap.size = b := ⟨_, rfl⟩
      have HB1Z := Lib.hid hb1'
      rw [hb1'] at ho2 hb2
      have hhb : h ≤ b1 := by have h1 := HBX.out.size; rw [hb1', HH.out] at h1; exact h1
      have HO2 : Hid (∃ m, w2.ownsRow b1 5 1 v2 m (vals (grp L ++ flatB (T[k].take 0)))) := by
        refine ⟨gsize L, ?_⟩
        rw [List.take_zero]
        show w2.ownsRow _ _ _ _ _ (vals (grp L ++ []))
        rw [List.append_nil]
        exact ho2
      have HB2 := Lib.hid hb2
      have HBW0 : Hid (Below wz.heap.size wz w2) := HBX.out.trans (hb2.mono (by rw [HH.out]; exact hhb))
      have q2 := (KB.out.bel HBW0.out).cell 0 rfl
      have q3 := HCL.out w2 HBW0.out
      clear ho2 hb2 hb1' q0 q1
      go_wp2_with fail
      clear q2 q3 HBW0
      go_loopw [10, 12] (fun y j wi => ∃ t : Nat, t ≤ L ∧ j = .int .i64 t ∧ Hid (∃ m, wi.ownsRow b1 5 1 y m (vals (grp L ++ flatB (T[k].take t)))) ∧ Hid (Below b1 wo wi)) (fun _ j _ => L - (intOf j).toNat)
      case atStart => exact ⟨0, by omega, rfl, HO2, HB2⟩
      case round =>
        clear HO2 HB2
        obtain ⟨t, ht, rfl, HO2, HB2⟩ := hrel
        generalize wr = wi at *
        have HBW : Hid (Below wz.heap.size wz wi) := HBX.out.trans (HB2.out.mono (by rw [HH.out]; exact hhb))
        have q0 := (KB.out.bel HBW.out).cell 0 rfl
        have q1 := HCL.out wi HBW.out
        by_cases hlt2 : t < L
        · have htl : t < T[k].length := by rw [HLL.out]; exact hlt2
          have hti : (t : Int) < (L : Int) := by omega
          have htz : (0 : Int) ≤ (t : Int) := by omega
          obtain ⟨ad2, rfl, _⟩ := HIR.out.has' (by rw [rcells_length]; omega)
          obtain ⟨f0, f1, f2, f3⟩ := (HIR.out.has'.bel HBW.out).four t htl
          have CR := Lib.hid (ruleB T[k][t] wi (HFL.out _ (List.getElem_mem htl)))
          have HFS := Lib.hid (flatB_take_succ T[k] t htl)
          generalize T[k][t] = r at *
          obtain ⟨m3, ho2⟩ := HO2.out
          have hm3 : m3 = gsize L + 8 * t := by
            have h := ho2.1
            rw [vals_length, List.length_append, grp_length, flatB_length, List.length_take, Nat.min_eq_left (by omega)] at h
            omega
          have hg4 := (gsize_pos L).2
          have hm3b : (m3 : Int) ≤ 40000 := by omega
          have HO2' := Lib.hid ho2
          clear HO2 ho2 hm3 hg4
          go_wp2_with fail
          refine CR.out.mono ?_
          rintro e3 w3 ⟨v3, rfl, hv3, hb3⟩
          obtain ⟨A3, n3, c3, rfl, hnc3, hcm3, hl3, hA3⟩ := hv3
          rw [rbL_length] at hl3
          subst hl3
          have HO3 := Lib.hid (own_bel HO2'.out hb3)
          have HA3 := Lib.hid hA3
          have HB3 : Hid (Below b1 wo w3) := HB2.out.trans (hb3.mono (by have h1 := HB2.out.size; have h2 := HB1Z.out; omega))
          have hsz3 : b1 ≤ w3.heap.size := by have h1 := HB3.out.size; have h2 := HB1Z.out; omega
          obtain ⟨i0, hi0, hz0, hz1, hz2⟩ := info_parts HI.out
          clear hA3 hb3 CR HO2' HB2 f0 f1 f2 f3 q0 q1 HBW
          go_wp2_with (at_builtin; refine wpList_append_has _ rfl (.tmp 83) (.tmp 84) _ rfl b1 5 i0 (.int .u8 0) 1 Tryd.underlying25 hi0 hz0 hz1 hz2 rfl u10 m3 _ rfl HO3.out A3 8 c3 (vals (rbL r)) rfl (by rw [vals_length, rbL_length]) HA3.out (vals_one _) (by unfold maxLen; omega) (by omega) hsz3 ?_; intro v4 w4 hown4 hgrow4 _; have HO4 := Lib.hid hown4; have HG4 := Lib.hid hgrow4; clear hown4 hgrow4)
          have hb4 : Below b1 w3 w4 := (Below.refl b1 w3).grown HG4.out hsz3 (own_from HO3.out)
          have HB4 := Lib.hid (HB3.out.trans hb4)
          have HO5 : Hid (∃ m, w4.ownsRow b1 5 1 v4 m (vals (grp L ++ flatB (T[k].take (t + 1))))) := by
            refine ⟨m3 + 8, ?_⟩
            rw [HFS.out, ← List.append_assoc, vals_append]
            exact HO4.out
          clear hb4 HO4 HG4 HO3 HA3 HB3
          go_roundw
          case rel => exact ⟨t + 1, by omega, by go_num, HO5, HB4⟩
          case measure => simp [intOf]; omega
        · obtain rfl : t = L := by omega
          have HIN : Hid (IsB wi u10 (nodeB T[k])) := by
            obtain ⟨m3, h⟩ := HO2.out
            rw [List.take_of_length_le (by rw [HLL.out]; exact Nat.le_refl _)] at h
            have := IsB.of_own h
            show IsB _ _ _
            unfold nodeB
            rw [HLL.out]
            exact this
          have CS := Lib.hid (sectC T[k] u10 wi HIN.out (by rw [HLL.out]; omega))
          obtain ⟨m1, ho⟩ := HO.out
          have HO1 := Lib.hid (own_low ho (by rw [← HB1Z.out]; exact own_size ho) HB2.out)
          have HSL := Lib.hid (sectB_le T[k])
          have HFS := Lib.hid (sectsB_take_succ T k hkl)
          have hm1 : (m1 : Int) ≤ 100000 := by
            have h := ho.1
            rw [vals_length, List.length_append, grp_length] at h
            have h1 := sectsB_le (T.take k)
            have h2 := szN_take_le T k
            have h3 := HST.out
            have h4 := gsize_pos NT
            have h5 : (T.take k).length ≤ 8 := by rw [List.length_take, HNT.out]; omega
            omega
          clear ho HO2 HIN HO
          go_wp2_with fail
          refine CS.out.mono ?_
          rintro e5 w5 ⟨v5, rfl, hv5, hb5⟩
          obtain ⟨A5, n5, c5, rfl, hnc5, hcm5, hl5, hA5⟩ := hv5
          have hn5 : (n5 : Int) ≤ 40000 := by
            have h := HSL.out
            rw [hl5, HLL.out] at h
            omega
          have HL5 := Lib.hid hl5
          have HO5 := Lib.hid (own_bel HO1.out hb5)
          have HA5 := Lib.hid hA5
          have HB5 : Hid (Below wz.heap.size wz w5) := HBW.out.trans (hb5.mono HBW.out.size)
          have hsz5 : h ≤ w5.heap.size := by have h1 := HB5.out.size; rw [HH.out] at h1; exact h1
          obtain ⟨i0, hi0, hz0, hz1, hz2⟩ := info_parts HI.out
          clear hA5 hb5 hl5 CS HO1 HB2 HBW HSL q0 q1
          go_wp2_with (at_builtin; refine wpList_append_has _ rfl (.tmp 97) (.tmp 98) _ rfl h 5 i0 (.int .u8 0) 1 Tryd.underlying25 hi0 hz0 hz1 hz2 rfl u7 m1 _ rfl HO5.out A5 n5 c5 (vals (sectB T[k])) rfl (by rw [vals_length, HL5.out]) HA5.out (vals_one _) (by unfold maxLen; omega) (by omega) hsz5 ?_; intro v6 w6 hown6 hgrow6 _; have HO6 := Lib.hid hown6; have HG6 := Lib.hid hgrow6; clear hown6 hgrow6)
          have hb6 : Below h w5 w6 := (Below.refl h w5).grown HG6.out hsz5 (own_from HO5.out)
          have HB6 : Hid (Below h wz w6) := by
            have h1 := HB5.out
            rw [HH.out] at h1
            exact h1.trans hb6
          have HO7 : Hid (∃ m, w6.ownsRow h 5 1 v6 m (vals (grp NT ++ sectsB (T.take (k + 1))))) := by
            refine ⟨m1 + n5, ?_⟩
            rw [HFS.out, ← List.append_assoc, vals_append]
            exact HO6.out
          clear hb6 HO6 HG6 HO5 HA5 HB5
          go_roundw
          case rel => exact ⟨k + 1, by omega, by go_num, HO7, HB6⟩
          case measure => simp [intOf]; omega
    · obtain rfl : k = NT := by omega
      have HZ : Hid (IsB wo u7 (bodyB T)) := by
        obtain ⟨m, h⟩ := HO.out
        rw [List.take_of_length_le (by rw [HNT.out]; exact Nat.le_refl _)] at h
        have := IsB.of_own h
        show IsB _ _ _
        unfold bodyB
        rw [HNT.out]
        exact this
      clear HO
      have hb := HBX.out
      replace HTW := Lib.hid (HTW.out.bel hb)
      replace VB := Lib.hid (VB.out.bel hb)
      have HBE := Lib.hid (HBZ.out.trans (hb.mono HBZ.out.size))
      clear hb
      go_upto_region 22 with fail
      have HD : Hid (Below wo.heap.size wo wo.drew) := (Below.refl _ _).drew
      have HTA := Lib.hid (HTW.out.bel HD.out)
      have HS : Hid (∀ w', Below wo.heap.size wo w' → (convert 25 9 bv).run Tryd.prog w' = .ok (.string ⟨F.toArray⟩) w') := fun w' h => str_in (VB.out.bel h)
      have HFX : Hid (frameN 1179206193 (bodyB T) = F) := HFT2
      refine wp_region_held_drew (S := fun w' => (convert 25 9 bv).run Tryd.prog w' = .ok (.string ⟨F.toArray⟩) w') (by kernel_rfl) (HS.out _ HD.out) (fun hHeld => ?_)
      refine wpAnyH_take (i := 0) (oi := ({ dst := some 100, op := Op.move (Operand.tmp 5), type := 25, pos := "more.go:36", after := #[], guard := none } : Oper)) (v := ?_) rfl (by kernel_rfl) (by kernel_rfl) (by kernel_rfl) (fun _ _ _ h => h) (Or.inl ⟨by rfl, ?_⟩) (by assumption) ?_
      rotate_left 1
      · intro w hSw
        (try dsimp only at hSw)
        go_simp
        try with_reducible rfl
      try simp only [Act.put, List.setIfInBounds_toArray, List.set_cons_zero, List.set_cons_succ]
      refine wpAnyH_take (i := 1) (oi := ({ dst := some 101, op := Op.convert 25 9 (Operand.tmp 100), type := 9, pos := "more.go:36", after := #[{ on := 0, ground := Ground.data }], guard := none } : Oper)) (v := ?_) rfl (by kernel_rfl) (by kernel_rfl) (by kernel_rfl) (fun _ _ _ h => h) (Or.inl ⟨by rfl, ?_⟩) (by assumption) ?_
      rotate_left 1
      · intro w hSw
        (try dsimp only at hSw)
        go_simp
        try with_reducible rfl
      try simp only [Act.put, List.setIfInBounds_toArray, List.set_cons_zero, List.set_cons_succ]
      refine wpAnyH_take (i := 2) (oi := ({ dst := some 102, op := Op.move (Operand.tmp 7), type := 25, pos := "more.go:36", after := #[], guard := none } : Oper)) (v := ?_) rfl (by kernel_rfl) (by kernel_rfl) (by kernel_rfl) (fun _ _ _ h => h) (Or.inl ⟨by rfl, ?_⟩) (by assumption) ?_
      rotate_left 1
      · intro w hSw
        (try dsimp only at hSw)
        go_simp
        try with_reducible rfl
      try simp only [Act.put, List.setIfInBounds_toArray, List.set_cons_zero, List.set_cons_succ]
      refine wpAnyH_ready (rs := [3]) (by kernel_rfl) (by simp) ?_
      refine AllReadyH.cons rfl (fun K hK => ?_) AllReadyH.nil
      go_simp
      go_at_call 18
      refine (fput_any 1179206193 _ (bodyB T) _ (by decide) (HZ.out.bel HD.out) (by have := HBT.out; omega) HTA).mono ?_
      rintro e w8 ⟨p8, rfl, hp8, hb8⟩
      have hv8 := fput_isb hp8
      rw [HFX.out] at hv8
      have HB8 := Lib.hid (HD.out.trans (hb8.mono HD.out.size))
      clear hp8 hb8
      refine hK.out _ _ (HS.out _ HB8.out) (fun hHeld => ?_)
      clear hK K
      try simp only [Act.put, List.setIfInBounds_toArray, List.set_cons_zero, List.set_cons_succ]
      have hHeld2 : (fun w' => (convert 25 9 p8).run Tryd.prog w' = .ok (.string ⟨F.toArray⟩) w' ∧ (convert 25 9 bv).run Tryd.prog w' = .ok (.string ⟨F.toArray⟩) w') w8 := ⟨str_in hv8, HS.out _ HB8.out⟩
      refine wpAnyH_mono (S' := fun w' => (convert 25 9 p8).run Tryd.prog w' = .ok (.string ⟨F.toArray⟩) w' ∧ (convert 25 9 bv).run Tryd.prog w' = .ok (.string ⟨F.toArray⟩) w') (fun w' h => h.2) _ _ _ _ ?_
      try clear hHeld
      refine wpAnyH_take (i := 4) (oi := ({ dst := some 104, op := Op.convert 25 9 (Operand.tmp 103), type := 9, pos := "more.go:36", after := #[{ on := 3, ground := Ground.data }], guard := none } : Oper)) (v := ?_) rfl (by kernel_rfl) (by kernel_rfl) (by kernel_rfl) (fun _ _ _ h => h) (Or.inl ⟨by rfl, ?_⟩) (by assumption) ?_
      rotate_left 1
      · intro w hSw
        (try dsimp only at hSw)
        go_simp
        try with_reducible rfl
      try simp only [Act.put, List.setIfInBounds_toArray, List.set_cons_zero, List.set_cons_succ]
      refine wpAnyH_take (i := 5) (oi := ({ dst := some 105, op := Op.binOp BinOp.eql 9 (Operand.tmp 101) (Operand.tmp 104) 9, type := 4, pos := "more.go:36", after := #[{ on := 1, ground := Ground.data }, { on := 4, ground := Ground.data }], guard := none } : Oper)) (v := ?_) rfl (by kernel_rfl) (by kernel_rfl) (by kernel_rfl) (fun _ _ _ h => h) (Or.inl ⟨by rfl, ?_⟩) (by assumption) ?_
      rotate_left 1
      · intro w hSw
        (try dsimp only at hSw)
        go_simp
        try with_reducible rfl
      try simp only [Act.put, List.setIfInBounds_toArray, List.set_cons_zero, List.set_cons_succ]
      refine wpAnyH_take (i := 6) (oi := ({ dst := some 2, op := Op.assign (Operand.tmp 105), type := 4, pos := "more.go:36", after := #[{ on := 5, ground := Ground.data }, { on := 3, ground := Ground.chain }, { on := 0, ground := Ground.phase }, { on := 1, ground := Ground.phase }, { on := 2, ground := Ground.phase }, { on := 3, ground := Ground.phase }, { on := 4, ground := Ground.phase }, { on := 5, ground := Ground.phase }], guard := none } : Oper)) (v := ?_) rfl (by kernel_rfl) (by kernel_rfl) (by kernel_rfl) (fun _ _ _ h => h) (Or.inl ⟨by rfl, ?_⟩) (by assumption) ?_
      rotate_left 1
      · intro w hSw
        (try dsimp only at hSw)
        go_simp
        try with_reducible rfl
      try simp only [Act.put, List.setIfInBounds_toArray, List.set_cons_zero, List.set_cons_succ]
      refine wpAnyH_done (by kernel_rfl) ?_ _
      go_wp2_with fail
      go_ret
      exact ⟨rfl, HBE.out.trans (HB8.out.mono HBE.out.size)⟩
end Go.Proofs.YtohggpaffmcfoaaDoor
