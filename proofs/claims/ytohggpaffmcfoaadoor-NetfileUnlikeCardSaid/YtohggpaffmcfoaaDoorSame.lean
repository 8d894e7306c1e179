/- Contracts of theseusref08.Same and theseusref09.Same. -/
import Derived.Test.YtohggpaffmcfoaaDoorNetKit
import Derived.Test.YtohggpaffmcfoaaDoorBlk
import Derived.Test.YtohggpaffmcfoaaDoorRuleEq
import Derived.Deep.DeepCutAuto
import Derived.Deep.RegionHeld3
import Derived.BigQuiet
namespace Go.Proofs.YtohggpaffmcfoaaDoor
open Go.RowKit
set_option linter.unusedVariables false
set_option maxRecDepth 100000
set_option linter.unusedSimpArgs false

attribute [local go_sem ↓ high] run_neq_rule
attribute [local go_sem] rule_guard

theorem take_same {α : Type} {l m : List α} {k : Nat} (h : l.take k = m.take k) (h1 : k < l.length) (h2 : k < m.length) (he : l[k] = m[k]) : l.take (k + 1) = m.take (k + 1) := by
  rw [List.take_succ_eq_append_getElem h1, List.take_succ_eq_append_getElem h2, h, he]
set_option maxHeartbeats 4000000 in
theorem rsame8_any (v u : Value) (l m : List Rl) (w : World) (hv : IsR w v l) (hu : IsR w u m) :
    Calls Tryd.prog 35 #[v, u] w fun e w' => ∃ q : Bool, e = .returned (.bool q) ∧ (q = true ↔ l = m) ∧ Below w.heap.size w w' := by
  obtain ⟨A, n, c, rfl, hn, hc, hl, hA⟩ := hv
  obtain ⟨B, n', c', rfl, hn', hc', hl', hB⟩ := hu
  have HA := Lib.hid hA
  have HB := Lib.hid hB
  have HL := Lib.hid hl
  have HM := Lib.hid hl'
  have hnm : (n : Int) ≤ 9223372036854775807 := by unfold maxLen at hc; omega
  clear hA hB hl hl' hn hn' hc hc'
  by_cases hne : n = n'
  · subst hne
    have t1 : ((n : Int) != (n : Int)) = false := by simp
    go_enter Tryd.func35, Tryd.ntmps35
    go_wp2
    go_loopw [5] (fun i wr => ∃ k : Nat, k ≤ n ∧ i = .int .i64 k ∧ Hid (l.take k = m.take k) ∧ Hid (Below w.heap.size w wr)) (fun i _ => n - (intOf i).toNat)
    case atStart => exact ⟨0, by omega, rfl, rfl, Below.refl _ _⟩
    case round =>
      obtain ⟨k, hk, rfl, HT, HBe⟩ := hrel
      by_cases hlt : k < n
      · have hkl : k < l.length := by rw [HL.out]; exact hlt
        have hkm : k < m.length := by rw [HM.out]; exact hlt
        have hki : (k : Int) < (n : Int) := by omega
        have hkz : (0 : Int) ≤ (k : Int) := by omega
        obtain ⟨ad, rfl, _⟩ := HA.out (by rw [rcells_length]; omega)
        obtain ⟨bd, rfl, _⟩ := HB.out (by rw [rcells_length]; omega)
        obtain ⟨f0, f1, f2, f3⟩ := (HA.out.bel HBe.out).four k hkl
        obtain ⟨g0, g1, g2, g3⟩ := (HB.out.bel HBe.out).four k hkm
        have HTS := Lib.hid (fun he => take_same HT.out hkl hkm he)
        have HNS : Hid (l = m → l[k] = m[k]) := fun e => by subst e; rfl
        generalize l[k] = r at *
        generalize m[k] = s at *
        obtain ⟨Q, hQ⟩ : ∃ Q, sameB r s = Q := ⟨_, rfl⟩
        have HQ : Hid (Q = true ↔ r = s) := by rw [← hQ]; exact sameB_iff r s
        go_upto_region 6 with fail
        go_quiet (fail)
        clear hQ
        cases Q with
        | true =>
          have hrs := HQ.out.1 rfl
          subst hrs
          have HT2 := Lib.hid (HTS.out rfl)
          have HB2 := Lib.hid (drewN_below HBe.out nq)
          clear HT HBe f0 f1 f2 f3 g0 g1 g2 g3
          go_wp2_with fail
          go_roundw
          case rel => exact ⟨k + 1, by omega, by go_num, HT2, HB2⟩
          case measure => simp [intOf]; omega
        | false =>
          have HNE : Hid (l ≠ m) := fun e => by
            have h := HQ.out.2 (HNS.out e)
            cases h
          have HB2 := Lib.hid (drewN_below HBe.out nq)
          clear HT HBe f0 f1 f2 f3 g0 g1 g2 g3
          go_wp2_with fail
          go_ret
          exact ⟨false, rfl, ⟨fun h => (by cases h), fun h => absurd h HNE.out⟩, HB2.out⟩
      · obtain rfl : k = n := by omega
        have HE : Hid (l = m) := by
          have h := HT.out
          rw [List.take_of_length_le (by rw [HL.out]; exact Nat.le_refl _), List.take_of_length_le (by rw [HM.out]; exact Nat.le_refl _)] at h
          exact h
        go_wp2_with fail
        go_ret
        exact ⟨true, rfl, ⟨fun _ => HE.out, fun _ => rfl⟩, HBe.out⟩
  · have t1 : ((n : Int) != (n' : Int)) = true := by rw [bne_iff_ne]; omega
    have HE : Hid (l ≠ m) := fun e => hne (by rw [← HL.out, ← HM.out, e])
    go_enter Tryd.func35, Tryd.ntmps35
    go_wp2
    go_ret
    exact ⟨false, rfl, ⟨fun h => (by cases h), fun h => absurd h HE.out⟩, Below.refl _ _⟩
theorem isn_same {N M : Nt} (h : N.length = M.length) (h2 : N.take N.length = M.take N.length) : N = M := by
  rw [List.take_of_length_le (Nat.le_refl _), List.take_of_length_le (by omega)] at h2
  exact h2
set_option maxHeartbeats 8000000 in
theorem rsame9_any (v u : Value) (N M : Nt) (w : World) (hv : IsN w v N) (hu : IsN w u M) :
    Calls Tryd.prog 17 #[v, u] w fun e w' => ∃ q : Bool, e = .returned (.bool q) ∧ (q = true ↔ N = M) ∧ Below w.heap.size w w' := by
  obtain ⟨A, c, rfl, hc, hm, hS⟩ := hv.slice
  obtain ⟨B, c', rfl, hc', hm', hS'⟩ := hu.slice
  obtain ⟨n, hn⟩ : ∃ n, N.length = n := ⟨_, rfl⟩
  obtain ⟨n', hn'⟩ : ∃ n, M.length = n := ⟨_, rfl⟩
  rw [hn] at hc hS ⊢
  rw [hn'] at hc' hS' ⊢
  have HN := Lib.hid hn
  have HM := Lib.hid hn'
  have HS := Lib.hid hS
  have HS' := Lib.hid hS'
  have hnm : (n : Int) ≤ 9223372036854775807 := by unfold maxLen at hm; omega
  obtain ⟨g, hg⟩ : ∃ g, w.heap.size = g := ⟨_, rfl⟩
  have HGG := Lib.hid hg
  have HK0 : Hid (Blk g #[.slice A n c] 24 ((w.alloc (.cells #[.slice A n c] 24)).alloc (.cells #[.slice B n' c'] 24))) := by
    subst hg
    exact (Blk.new w _ _).bel ((Below.refl _ _).alloc (Nat.le_refl _) _)
  have HJ0 : Hid (Blk (g + 1) #[.slice B n' c'] 24 ((w.alloc (.cells #[.slice A n c] 24)).alloc (.cells #[.slice B n' c'] 24))) := by
    subst hg
    have h := Blk.new (w.alloc (.cells #[.slice A n c] 24)) #[.slice B n' c'] 24
    rw [World.size_alloc] at h
    exact h
  have HB0 : Hid (Below g w ((w.alloc (.cells #[.slice A n c] 24)).alloc (.cells #[.slice B n' c'] 24))) := by
    subst hg
    exact ((Below.refl w.heap.size w).alloc (Nat.le_refl _) _).alloc (by simp only [World.size_alloc]; omega) _
  have q0 := HK0.out.cell 0 rfl
  have q1 := HJ0.out.cell 0 rfl
  clear hv hu hS hS' hn hn' hc hc' hm hm'
  by_cases hne : n = n'
  · subst hne
    have t1 : ((n : Int) != (n : Int)) = false := by simp
    go_enter Tryd.func17, Tryd.ntmps17
    go_wp2
    clear hg q0 q1
    generalize (w.alloc (.cells #[.slice A n c] 24)).alloc (.cells #[.slice B n c'] 24) = w1 at *
    go_loopw [5] (fun i wr => ∃ k : Nat, k ≤ n ∧ i = .int .i64 k ∧ Hid (N.take k = M.take k) ∧ Hid (Blk g #[.slice A n c] 24 wr) ∧ Hid (Blk (g + 1) #[.slice B n c'] 24 wr) ∧ Hid (Below g w wr)) (fun i _ => n - (intOf i).toNat)
    case atStart => exact ⟨0, by omega, rfl, rfl, HK0, HJ0, HB0⟩
    case round =>
      clear HK0 HJ0 HB0
      obtain ⟨k, hk, rfl, HT, HK, HJ, HB⟩ := hrel
      have q0 := HK.out.cell 0 rfl
      have q1 := HJ.out.cell 0 rfl
      by_cases hlt : k < n
      · have hkl : k < N.length := by rw [HN.out]; exact hlt
        have hkm : k < M.length := by rw [HM.out]; exact hlt
        have hki : (k : Int) < (n : Int) := by omega
        have hkz : (0 : Int) ≤ (k : Int) := by omega
        obtain ⟨ad, X, m, rfl, _, _, hr, hcl⟩ := HS.out.all k hkl
        obtain ⟨bd, Y, m', rfl, _, _, hr', hcl'⟩ := HS'.out.all k hkm
        have hbw : Below w.heap.size w wr := by rw [HGG.out]; exact HB.out
        have HCL : Hid (∀ wx, Below wr.heap.size wr wx → wx.cell? ⟨g, 0, none⟩ = some (.slice (some ad) n c) ∧ wx.cell? ⟨g + 1, 0, none⟩ = some (.slice (some bd) n c') ∧ wx.cell? (ad.add k) = some (.slice X N[k].length m) ∧ wx.cell? (bd.add k) = some (.slice Y M[k].length m')) :=
          fun wx hx => ⟨(HK.out.bel hx).cell 0 rfl, (HJ.out.bel hx).cell 0 rfl, hcl wx (hbw.trans (hx.mono hbw.size)), hcl' wx (hbw.trans (hx.mono hbw.size))⟩
        have CS := Lib.hid (fun wx (hx : Below wr.heap.size wr wx) => rsame8_any _ _ N[k] M[k] wx (hr.bel (hbw.trans (hx.mono hbw.size))) (hr'.bel (hbw.trans (hx.mono hbw.size))))
        have HTS := Lib.hid (fun he => take_same HT.out hkl hkm he)
        have HNS : Hid (N = M → N[k] = M[k]) := fun e => by subst e; rfl
        have HD := Lib.hid (Below.refl wr.heap.size wr).drew
        generalize N[k] = ln at *
        generalize M[k] = lm at *
        generalize ln.length = X1 at *
        generalize lm.length = Y1 at *
        clear hr hr' hcl hcl' hbw
        obtain ⟨p0, p1, p2, p3⟩ := HCL.out wr (Below.refl _ _)
        go_upto_region 6 with fail
        go_cut [31] (fun x wx => ∃ q : Bool, x = .bool (!q) ∧ Hid (q = true ↔ ln = lm) ∧ Hid (Below wr.heap.size wr wx))
        case first =>
          go_region_held3 (fun w' => w'.cell? ⟨g, 0, none⟩ = some (.slice (some ad) n c) ∧ w'.cell? ⟨g + 1, 0, none⟩ = some (.slice (some bd) n c') ∧ w'.cell? (ad.add k) = some (.slice X X1 m) ∧ w'.cell? (bd.add k) = some (.slice Y Y1 m'))
            (first | go_keep | exact HCL.out _ HD.out | exact HCL.out _ D0.out)
            (first
              | (go_simp; go_at_call 35; refine (CS.out _ HD.out).mono ?_; rintro e8 w8 ⟨q8, rfl, hq8, hb8⟩; have D0 := Lib.hid (HD.out.trans (hb8.mono HD.out.size)); have HQ8 := Lib.hid hq8; clear hb8 hq8))
          all_goals
            go_wp2_with fail
            go_meet
            exact ⟨q8, rfl, HQ8, D0⟩
        case rest =>
          obtain ⟨q, rfl, HQ, HBc⟩ := hcut
          generalize wc = wd at *
          have HKd := Lib.hid (HK.out.bel HBc.out)
          have HJd := Lib.hid (HJ.out.bel HBc.out)
          have HBd := Lib.hid (HB.out.trans (HBc.out.mono (by have h1 := HB.out.size; have h2 := HGG.out; omega)))
          clear HBc HD CS HCL p0 p1 p2 p3 q0 q1 HK HJ HB
          cases q with
          | true =>
            have HT2 := Lib.hid (HTS.out (HQ.out.1 rfl))
            go_wp2_with fail
            go_roundw
            case rel => exact ⟨k + 1, by omega, by go_num, HT2, HKd, HJd, HBd⟩
            case measure => simp [intOf]; omega
          | false =>
            have HNE : Hid (N ≠ M) := fun e => by
              have h := HQ.out.2 (HNS.out e)
              cases h
            go_wp2_with fail
            go_ret
            exact ⟨false, rfl, ⟨fun h => (by cases h), fun h => absurd h HNE.out⟩, by rw [HGG.out]; exact HBd.out⟩
      · obtain rfl : k = n := by omega
        have HE : Hid (N = M) := isn_same (by rw [HN.out, HM.out]) (by rw [HN.out]; exact HT.out)
        go_wp2_with fail
        go_ret
        exact ⟨true, rfl, ⟨fun _ => HE.out, fun _ => rfl⟩, by rw [HGG.out]; exact HB.out⟩
  · have t1 : ((n : Int) != (n' : Int)) = true := by rw [bne_iff_ne]; omega
    have HE : Hid (N ≠ M) := fun e => hne (by rw [← HN.out, ← HM.out, e])
    go_enter Tryd.func17, Tryd.ntmps17
    go_wp2
    go_ret
    exact ⟨false, rfl, ⟨fun h => (by cases h), fun h => absurd h HE.out⟩, by rw [HGG.out]; exact HB0.out⟩
end Go.Proofs.YtohggpaffmcfoaaDoor
