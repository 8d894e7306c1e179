/- Contracts of package theseusref10: Body, Put. -/
import Derived.Test.YtohggpaffmcfoaaDoorMath
import Derived.Test.YtohggpaffmcfoaaDoorNetKit
import Derived.Test.YtohggpaffmcfoaaDoorLow
import Derived.Test.YtohggpaffmcfoaaDoorMid
import Derived.Test.YtohggpaffmcfoaaDoorRef07P
import Derived.Test.YtohggpaffmcfoaaDoorRef09m
import Derived.Test.YtohggpaffmcfoaaDoorBlk
namespace Go.Proofs.YtohggpaffmcfoaaDoor
open Go.RowKit
set_option linter.unusedVariables false
set_option maxRecDepth 100000
set_option linter.unusedSimpArgs false

/-- what a row of the call's own is stays, while all below some block stays and the row lies below it -/
theorem own_low {w w' : World} {base size n m : Nat} {e : TypeId} {v : Value} {xs : List Value} (h : w.ownsRow base e size v n xs) (hlt : ∀ q, v.ownBlock = some q → q < m) (hb : Below m w w') : w'.ownsRow base e size v n xs := by
  refine ⟨h.1, ?_⟩
  rcases h.2 with h | ⟨g, cap, cur, rfl, h2, h3, h4⟩
  · exact .inl h
  · exact .inr ⟨g, cap, cur, rfl, h2, (hb.block g (hlt g rfl)).trans h3, h4⟩
theorem own_size {w : World} {base size n : Nat} {e : TypeId} {v : Value} {xs : List Value} (h : w.ownsRow base e size v n xs) : ∀ q, v.ownBlock = some q → q < w.heap.size := by
  intro q hq
  rcases h.2 with ⟨rfl, _⟩ | ⟨g, cap, cur, rfl, _, h3, _⟩
  · simp [Value.ownBlock] at hq
  · obtain rfl : g = q := by simpa [Value.ownBlock] using hq
    exact (Array.getElem?_eq_some_iff.1 h3).1
theorem own_from {w : World} {base size n : Nat} {e : TypeId} {v : Value} {xs : List Value} (h : w.ownsRow base e size v n xs) : ∀ q, v.ownBlock = some q → base ≤ q := by
  intro q hq
  rcases h.2 with ⟨rfl, _⟩ | ⟨g, cap, cur, rfl, hb, _⟩
  · simp [Value.ownBlock] at hq
  · obtain rfl : g = q := by simpa [Value.ownBlock] using hq
    exact hb
theorem rruleB (r : Rl) (w : World) (h : FitL r) : Calls Tryd.prog 51 #[.agg #[.int .u32 (r.at_ : Int), .int .i64 r.len, .int .i64 r.act, .int .i64 r.nxt]] w fun e w' => ∃ v, e = .returned (.tuple #[v, .int .i64 0]) ∧ IsB w' v (rbL r) ∧ Below w.heap.size w w' :=
  rrulput_ok r.at_ r.len r.act r.nxt w (by have := h.1; omega) h.2.1 h.2.2.1 h.2.2.2
theorem rsectB (l : List Rl) (v : Value) (w : World) (hv : IsB w v (nodeB l)) (hl : l.length ≤ 4096) : Calls Tryd.prog 52 #[.int .u8 84, v] w fun e w' => ∃ v', e = .returned (.tuple #[v', .int .i64 0]) ∧ IsB w' v' (sectB l) ∧ Below w.heap.size w w' := by
  have h1 := nodeB_le hl
  have h := rsection_any 84 v (nodeB l) w hv (by omega)
  have e : sectF 84 (nodeB l) = (sectB l, 0) := by unfold sectF; rw [if_pos h1]; rfl
  rw [e] at h
  exact h
set_option maxRecDepth 100000 in
set_option maxHeartbeats 4000000 in
theorem rbody_any (v : Value) (N : Nt) (w : World) (hv : IsN w v N) (hN : mayN N = 0) (hwf : WfN N) :
    Calls Tryd.prog 28 #[v] w fun e w' => ∃ u, e = .returned u ∧ IsB w' u (bodyB N) ∧ Below w.heap.size w w' := by
  obtain ⟨A, c, rfl, hc, hm, hS⟩ := hv.slice
  have hfit := fit_of_net hN hwf
  obtain ⟨h256, h4096, _⟩ := mayN_ok.1 hN
  obtain ⟨n, hn⟩ : ∃ n, N.length = n := ⟨_, rfl⟩
  rw [hn] at hc hS h256 ⊢
  have HN := Lib.hid hn
  have HS := Lib.hid hS
  have HFT := Lib.hid hfit
  have HSZ := Lib.hid h4096
  have hnb : (n : Int) ≤ 256 := by omega
  have hn0 : (0 : Int) ≤ (n : Int) := by omega
  have HB0 : Hid (Below w.heap.size w (w.alloc (.cells #[.slice A n c] 24))) := (Below.refl _ _).alloc (Nat.le_refl _) _
  have HK0 := Lib.hid (Blk.new w #[.slice A n c] 24)
  have HI := Lib.hid byte_info
  have CP := Lib.hid (fun (m : Nat) (hm : (m : Int) ≤ 4096) (w : World) => rgput_own m w (by omega))
  obtain ⟨g, hg⟩ : ∃ g, w.heap.size = g := ⟨_, rfl⟩
  have HG := Lib.hid hg
  rw [hg] at HK0 HB0
  have q0 := HK0.out.cell 0 rfl
  clear hv hS hn hc hm hfit h256 h4096 hN
  go_enter Tryd.func28, Tryd.ntmps28
  go_wp2_with fail
  refine (CP.out n (by omega) _).mono ?_
  rintro e1 w1 ⟨v1, rfl, ho1, hb1⟩
  have HK1 := Lib.hid (HK0.out.bel hb1)
  have HO1 : Hid (w1.ownsRow (g + 1) 5 1 v1 (gsize n) (vals (grp n ++ sectsB (N.take 0)))) := by
    have h := own_base ho1 (base' := g + 1) (by rw [World.size_alloc, HG.out]; omega)
    rw [List.take_zero]
    show w1.ownsRow _ _ _ _ _ (vals (grp n ++ []))
    rw [List.append_nil]
    exact h
  have HB1 : Hid (Below g w w1) := HB0.out.trans (hb1.mono (by rw [World.size_alloc, HG.out]; omega))
  clear ho1 hb1 q0 HB0 HK0 hg
  go_wp2_with fail
  go_loopw [3, 5] (fun x i wr => ∃ k : Nat, k ≤ n ∧ i = .int .i64 k ∧ Hid (∃ m, wr.ownsRow (g + 1) 5 1 x m (vals (grp n ++ sectsB (N.take k)))) ∧ Hid (Blk g #[.slice A n c] 24 wr) ∧ Hid (Below g w wr)) (fun _ i _ => n - (intOf i).toNat)
  case atStart => exact ⟨0, by omega, rfl, ⟨_, HO1.out⟩, HK1, HB1⟩
  case round =>
    clear HO1 HK1 HB1
    obtain ⟨k, hk, rfl, HO, HK, HB⟩ := hrel
    have q0 := HK.out.cell 0 rfl
    generalize wr = wo at *
    by_cases hlt : k < n
    · have hkl : k < N.length := by rw [HN.out]; exact hlt
      have hki : (k : Int) < (n : Int) := by omega
      have hkz : (0 : Int) ≤ (k : Int) := by omega
      obtain ⟨ad, B, m, rfl, hlm, hmm, hr, hcl⟩ := HS.out.all k hkl
      have q1 := hcl wo (by rw [HG.out]; exact HB.out)
      have HCL := Lib.hid hcl
      have HIR := Lib.hid hr
      obtain ⟨L, hL⟩ : ∃ L, N[k].length = L := ⟨_, rfl⟩
      have HLL := Lib.hid hL
      have hfl := HFT.out N[k] (List.getElem_mem hkl)
      rw [hL] at hr hcl q1 HCL HIR hlm hfl
      have hLb : (L : Int) ≤ 4096 := by omega
      have HFL := Lib.hid hfl.2
      clear hr hcl hL hfl
      go_wp2_with fail
      refine (CP.out L (by omega) _).mono ?_
      rintro e2 w2 ⟨v2, rfl, ho2, hb2⟩
      obtain ⟨b1, hb1'⟩ : ∃ b, wo.heap.size = b := ⟨_, rfl⟩
      have HB1Z := Lib.hid hb1'
      rw [hb1'] at ho2 hb2
      have HGB : Hid (g < b1) := by
        show _ < _
        rw [← hb1']
        exact HK.out.size
      have HK2 : Hid (Blk g #[.slice (some ad) n c] 24 w2) := (hb2.block g HGB.out).trans HK.out
      have HO2 : Hid (∃ m, w2.ownsRow b1 5 1 v2 m (vals (grp L ++ flatB (N[k].take 0)))) := by
        refine ⟨gsize L, ?_⟩
        rw [List.take_zero]
        show w2.ownsRow _ _ _ _ _ (vals (grp L ++ []))
        rw [List.append_nil]
        exact ho2
      have HB2 := Lib.hid hb2
      clear ho2 hb2 hb1' q0 q1
      go_wp2_with fail
      go_loopw [6, 8] (fun y j wi => ∃ t : Nat, t ≤ L ∧ j = .int .i64 t ∧ Hid (∃ m, wi.ownsRow b1 5 1 y m (vals (grp L ++ flatB (N[k].take t)))) ∧ Hid (Blk g #[.slice (some ad) n c] 24 wi) ∧ Hid (Below b1 wo wi)) (fun _ j _ => L - (intOf j).toNat)
      case atStart => exact ⟨0, by omega, rfl, HO2, HK2, HB2⟩
      case round =>
        clear HO2 HK2 HB2
        obtain ⟨t, ht, rfl, HO2, HK2, HB2⟩ := hrel
        generalize wr = wi at *
        have HBW : Hid (Below g w wi) := HB.out.trans (HB2.out.mono (by have := HGB.out; omega))
        have q0 := HK2.out.cell 0 rfl
        have q1 := HCL.out wi (by rw [HG.out]; exact HBW.out)
        by_cases hlt2 : t < L
        · have htl : t < N[k].length := by rw [HLL.out]; exact hlt2
          have hti : (t : Int) < (L : Int) := by omega
          have htz : (0 : Int) ≤ (t : Int) := by omega
          obtain ⟨ad2, rfl, _⟩ := HIR.out.has' (by rw [rcells_length]; omega)
          obtain ⟨f0, f1, f2, f3⟩ := (HIR.out.has'.bel (by rw [HG.out]; exact HBW.out)).four t htl
          have CR := Lib.hid (rruleB N[k][t] wi (HFL.out _ (List.getElem_mem htl)))
          have HFS := Lib.hid (flatB_take_succ N[k] t htl)
          generalize N[k][t] = r at *
          obtain ⟨m3, ho2⟩ := HO2.out
          have hm3 : m3 = gsize L + 8 * t := by
            have h := ho2.1
            rw [vals_length, List.length_append, grp_length, flatB_length, List.length_take, Nat.min_eq_left (by omega)] at h
            omega
          have hg4 := (gsize_pos L).2
          have HM3 := Lib.hid hm3
          have hm3b : (m3 : Int) ≤ 40000 := by omega
          have HO2' := Lib.hid ho2
          clear HO2 ho2 hm3 hg4
          go_wp2_with fail
          refine CR.out.mono ?_
          rintro e3 w3 ⟨v3, rfl, hv3, hb3⟩
          obtain ⟨A3, n3, c3, rfl, hnc3, hcm3, hl3, hA3⟩ := hv3
          rw [rbL_length] at hl3
          subst hl3
          have HO3 := Lib.hid (own_bel HO2'.out hb3)
          have HA3 := Lib.hid hA3
          have HK3 := Lib.hid (HK2.out.bel hb3)
          have HB3 : Hid (Below b1 wo w3) := HB2.out.trans (hb3.mono (by have h1 := HB2.out.size; have h2 := HB1Z.out; omega))
          have hsz3 : b1 ≤ w3.heap.size := by have h1 := HB3.out.size; have h2 := HB1Z.out; omega
          obtain ⟨i0, hi0, hz0, hz1, hz2⟩ := info_parts HI.out
          clear hA3 hb3 CR HO2' HK2 HB2 f0 f1 f2 f3 q0 q1 HBW
          go_wp2_with (at_builtin; refine wpList_append_has _ rfl (.tmp 59) (.tmp 60) _ rfl b1 5 i0 (.int .u8 0) 1 Tryd.underlying25 hi0 hz0 hz1 hz2 rfl u6 m3 _ rfl HO3.out A3 8 c3 (vals (rbL r)) rfl (by rw [vals_length, rbL_length]) HA3.out (vals_one _) (by unfold maxLen; omega) (by omega) hsz3 ?_; intro v4 w4 hown4 hgrow4 _; have HO4 := Lib.hid hown4; have HG4 := Lib.hid hgrow4; clear hown4 hgrow4)
          have hb4 : Below b1 w3 w4 := (Below.refl b1 w3).grown HG4.out hsz3 (own_from HO3.out)
          have HK4 : Hid (Blk g #[.slice (some ad) n c] 24 w4) := (hb4.block g HGB.out).trans HK3.out
          have HB4 := Lib.hid (HB3.out.trans hb4)
          have HO5 : Hid (∃ m, w4.ownsRow b1 5 1 v4 m (vals (grp L ++ flatB (N[k].take (t + 1))))) := by
            refine ⟨m3 + 8, ?_⟩
            rw [HFS.out, ← List.append_assoc, vals_append]
            exact HO4.out
          clear hb4 HO4 HG4 HO3 HA3 HK3 HB3
          go_roundw
          case rel => exact ⟨t + 1, by omega, by go_num, HO5, HK4, HB4⟩
          case measure => simp [intOf]; omega
        · obtain rfl : t = L := by omega
          have HIN : Hid (IsB wi u6 (nodeB N[k])) := by
            obtain ⟨m3, h⟩ := HO2.out
            rw [List.take_of_length_le (by rw [HLL.out]; exact Nat.le_refl _)] at h
            have := IsB.of_own h
            show IsB _ _ _
            unfold nodeB
            rw [HLL.out]
            exact this
          have CS := Lib.hid (rsectB N[k] u6 wi HIN.out (by rw [HLL.out]; omega))
          obtain ⟨m1, ho⟩ := HO.out
          have HO1 := Lib.hid (own_low ho (by rw [← HB1Z.out]; exact own_size ho) HB2.out)
          have HSL := Lib.hid (sectB_le N[k])
          have HFS := Lib.hid (sectsB_take_succ N k hkl)
          have hm1 : (m1 : Int) ≤ 100000 := by
            have h := ho.1
            rw [vals_length, List.length_append, grp_length] at h
            have h1 := sectsB_le (N.take k)
            have h2 := szN_take_le N k
            have h3 := HSZ.out
            have h4 := gsize_pos n
            have h5 : (N.take k).length ≤ 256 := by rw [List.length_take, HN.out]; omega
            omega
          clear ho HO2 HIN HO
          go_wp2_with fail
          refine CS.out.mono ?_
          rintro e5 w5 ⟨v5, rfl, hv5, hb5⟩
          obtain ⟨A5, n5, c5, rfl, hnc5, hcm5, hl5, hA5⟩ := hv5
          have hn5 : (n5 : Int) ≤ 40000 := by
            have h := HSL.out
            rw [hl5, HLL.out] at h
            omega
          have HL5 := Lib.hid hl5
          have HO5 := Lib.hid (own_bel HO1.out hb5)
          have HA5 := Lib.hid hA5
          have HK5 := Lib.hid (HK2.out.bel hb5)
          have HB5 : Hid (Below g w w5) := HBW.out.trans (hb5.mono (by have h1 := HBW.out.size; have h2 := HG.out; omega))
          have hsz5 : g + 1 ≤ w5.heap.size := by have := HK5.out.size; omega
          obtain ⟨i0, hi0, hz0, hz1, hz2⟩ := info_parts HI.out
          clear hA5 hb5 hl5 CS HO1 HK2 HB2 HBW HSL q0 q1
          go_wp2_with (at_builtin; refine wpList_append_has _ rfl (.tmp 67) (.tmp 68) _ rfl (g + 1) 5 i0 (.int .u8 0) 1 Tryd.underlying25 hi0 hz0 hz1 hz2 rfl u3 m1 _ rfl HO5.out A5 n5 c5 (vals (sectB N[k])) rfl (by rw [vals_length, HL5.out]) HA5.out (vals_one _) (by unfold maxLen; omega) (by omega) hsz5 ?_; intro v6 w6 hown6 hgrow6 _; have HO6 := Lib.hid hown6; have HG6 := Lib.hid hgrow6; clear hown6 hgrow6)
          have hb6 : Below (g + 1) w5 w6 := (Below.refl (g + 1) w5).grown HG6.out hsz5 (own_from HO5.out)
          have HK6 : Hid (Blk g #[.slice (some ad) n c] 24 w6) := (hb6.block g (by omega)).trans HK5.out
          have HB6 := Lib.hid (HB5.out.trans (hb6.mono (by omega)))
          have HO7 : Hid (∃ m, w6.ownsRow (g + 1) 5 1 v6 m (vals (grp n ++ sectsB (N.take (k + 1))))) := by
            refine ⟨m1 + n5, ?_⟩
            rw [HFS.out, ← List.append_assoc, vals_append]
            exact HO6.out
          clear hb6 HO6 HG6 HO5 HA5 HK5 HB5
          go_roundw
          case rel => exact ⟨k + 1, by omega, by go_num, HO7, HK6, HB6⟩
          case measure => simp [intOf]; omega
    · obtain rfl : k = n := by omega
      have HZ : Hid (IsB wo u3 (bodyB N)) := by
        obtain ⟨m, h⟩ := HO.out
        rw [List.take_of_length_le (by rw [HN.out]; exact Nat.le_refl _)] at h
        have := IsB.of_own h
        show IsB _ _ _
        unfold bodyB
        rw [HN.out]
        exact this
      go_wp2_with fail
      go_ret
      exact ⟨_, rfl, HZ.out, by rw [HG.out]; exact HB.out⟩
set_option maxHeartbeats 4000000 in
theorem rnfput_any (v : Value) (N : Nt) (w : World) (hv : IsN w v N) (hs : szN N ≤ 1000000) (hwf : WfN N) :
    Calls Tryd.prog 13 #[v] w fun e w' => ∃ u, e = .returned (.tuple #[u, .int .i64 (putNf N).2]) ∧ IsB w' u (putNf N).1 ∧ Below w.heap.size w w' := by
  obtain ⟨A, c, rfl, hc, hm, hS⟩ := hv.slice
  obtain ⟨n, hn⟩ : ∃ n, N.length = n := ⟨_, rfl⟩
  rw [hn] at hc hS ⊢
  have HS := Lib.hid hS
  have HW := Lib.hid hwf
  have HB0 : Hid (Below w.heap.size w (w.alloc (.cells #[.slice A n c] 24))) := (Below.refl _ _).alloc (Nat.le_refl _) _
  have HK0 := Lib.hid (Blk.new w #[.slice A n c] 24)
  have CM := Lib.hid (rmayN_any (.agg #[.slice A n c]) N _ (hS.bel HB0.out).mk hs hwf)
  have q0 := HK0.out.cell 0 rfl
  obtain ⟨e0, he0⟩ : ∃ e0, mayN N = e0 := ⟨_, rfl⟩
  rw [he0] at CM
  have HE0 := Lib.hid he0
  clear hv hS hn hc hm hs hwf he0
  go_enter Tryd.func13, Tryd.ntmps13
  go_wp2_with fail
  refine CM.out.mono ?_
  rintro e1 w1 ⟨rfl, hb1⟩
  have HB1 := Lib.hid (HB0.out.trans (hb1.mono HB0.out.size))
  have HK1 := Lib.hid (HK0.out.bel hb1)
  clear hb1 q0 CM HB0 HK0
  have q0 := HK1.out.cell 0 rfl
  by_cases h0 : e0 = 0
  · subst h0
    have HP : Hid (putNf N = (frameN magicN (bodyB N), 0)) := putNf_ok HE0.out
    have CB := Lib.hid (rbody_any (.agg #[.slice A n c]) N w1 (HS.out.bel HB1.out).mk HE0.out HW.out)
    go_wp2_with fail
    refine CB.out.mono ?_
    rintro e2 w2 ⟨v2, rfl, hv2, hb2⟩
    have HB2 := Lib.hid (HB1.out.trans (hb2.mono HB1.out.size))
    have hlen := bodyB_le N
    obtain ⟨hl1, hl2, _⟩ := mayN_ok.1 HE0.out
    have CF := Lib.hid (rfput_any magicN v2 (bodyB N) w2 (by decide) hv2 (by omega))
    clear hv2 hb2 CB q0 hlen hl1 hl2
    unfold magicN at CF
    go_wp2_with fail
    refine CF.out.mono ?_
    rintro e3 w3 ⟨v3, rfl, hv3, hb3⟩
    have HV3 := Lib.hid hv3
    have HB3 := Lib.hid (HB2.out.trans (hb3.mono HB2.out.size))
    clear hv3 hb3 CF
    go_wp2_with fail
    go_ret2
    exact ⟨_, by rw [HP.out]; rfl, by rw [HP.out]; exact HV3.out, HB3.out⟩
  · have HP : Hid (putNf N = ([], e0)) := by
      show _ = _
      rw [putNf_no (by rw [HE0.out]; exact h0), HE0.out]
    have t1 : (e0 != 0) = true := by rw [bne_iff_ne]; exact h0
    go_wp2_with fail
    go_ret2
    exact ⟨_, by rw [HP.out]; rfl, by rw [HP.out]; exact IsB.nil_ _, HB1.out⟩
end Go.Proofs.YtohggpaffmcfoaaDoor
