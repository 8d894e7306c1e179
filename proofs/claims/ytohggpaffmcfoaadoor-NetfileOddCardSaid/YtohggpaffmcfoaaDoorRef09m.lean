/- Contract of theseusref09.May. -/
import Derived.Test.YtohggpaffmcfoaaDoorRef09s
import Derived.Test.YtohggpaffmcfoaaDoorRef08
namespace Go.Proofs.YtohggpaffmcfoaaDoor
open Go.RowKit
set_option linter.unusedVariables false
set_option maxRecDepth 100000
set_option linter.unusedSimpArgs false

theorem mayN_nodes {N : Nt} (h : 256 < N.length) : mayN N = 12 := by unfold mayN; rw [if_pos (.inl h)]
theorem mayN_rules {N : Nt} (h : 4096 < szN N) : mayN N = 12 := by unfold mayN; rw [if_pos (.inr h)]
theorem mayN_else {N : Nt} (h1 : N.length ≤ 256) (h2 : szN N ≤ 4096) : mayN N = firstE N.length N := by unfold mayN; rw [if_neg (by omega)]
theorem Blk.dN {g : Nat} {cs : Array Value} {t : TypeId} {w : World} (h : Blk g cs t w) (k : Nat) : Blk g cs t (w.drewN k) := h
set_option maxHeartbeats 4000000 in
theorem rmayN_any (v : Value) (N : Nt) (w : World) (hv : IsN w v N) (hs : szN N ≤ 1000000) (hwf : WfN N) :
    Calls Tryd.prog 26 #[v] w fun e w' => e = .returned (.int .i64 (mayN N)) ∧ Below w.heap.size w w' := by
  obtain ⟨A, c, rfl, hc, hm, hS⟩ := hv.slice
  obtain ⟨n, hn⟩ : ∃ n, N.length = n := ⟨_, rfl⟩
  rw [hn] at hc hS ⊢
  have HN := Lib.hid hn
  have hnm : (n : Int) ≤ 9223372036854775807 := by unfold maxLen at hm; omega
  have HS0 : Hid (∀ wx, Below w.heap.size w wx → IsS wx (.slice A n c) N) := fun wx hx => hS.bel hx
  have HB0 : Hid (Below w.heap.size w (w.alloc (.cells #[.slice A n c] 24))) := (Below.refl _ _).alloc (Nat.le_refl _) _
  have HK0 := Lib.hid (Blk.new w #[.slice A n c] 24)
  have HW := Lib.hid hwf
  have CS := Lib.hid (fun w' (hx : Below w.heap.size w w') => rsize_any (.agg #[.slice A n c]) N w' (hS.bel hx).mk hs)
  obtain ⟨g, hg⟩ : ∃ g, w.heap.size = g := ⟨_, rfl⟩
  have HGG := Lib.hid hg
  rw [hg] at HK0
  have hor : 256 < n ∨ (n ≤ 256 ∧ 4096 < szN N) ∨ (n ≤ 256 ∧ szN N ≤ 4096) := by omega
  obtain ⟨s, hsz⟩ : ∃ s, szN N = s := ⟨_, rfl⟩
  have HSZ := Lib.hid hsz
  rw [hsz] at hor CS
  clear hv hS hn hc hm hwf hs hsz
  rcases hor with h | ⟨h1, h2⟩ | ⟨h1, h2⟩
  · have HE := Lib.hid (mayN_nodes (N := N) (by rw [HN.out]; exact h))
    have t1 : decide ((n : Int) > 256) = true := decide_eq_true (by omega)
    have t2 : decide (256 < n) = true := decide_eq_true h
    clear hg
    go_enter Tryd.func26, Tryd.ntmps26
    go_wp2_with fail
    go_ret
    exact ⟨by rw [HE.out]; rfl, HB0.out⟩
  · have HE := Lib.hid (mayN_rules (N := N) (by rw [HSZ.out]; exact h2))
    have t1 : decide ((n : Int) > 256) = false := decide_eq_false (by omega)
    have t2 : decide (256 < n) = false := decide_eq_false (by omega)
    have t3 : decide ((s : Int) > 4096) = true := decide_eq_true (by omega)
    have t4 : decide (4096 < s) = true := decide_eq_true h2
    clear hg
    go_enter Tryd.func26, Tryd.ntmps26
    go_wp2_with fail
    refine (CS.out _ HB0.out).mono ?_
    rintro e1 w1 ⟨rfl, hb⟩
    have HB1 := Lib.hid (HB0.out.trans (hb.mono HB0.out.size))
    clear hb
    go_wp2_with fail
    go_ret
    exact ⟨by rw [HE.out]; rfl, HB1.out⟩
  · have HE : Hid (mayN N = firstE n (N.drop 0)) := by
      have h := mayN_else (N := N) (by rw [HN.out]; exact h1) (by rw [HSZ.out]; exact h2)
      rw [HN.out] at h
      exact h
    have t1 : decide ((n : Int) > 256) = false := decide_eq_false (by omega)
    have t2 : decide (256 < n) = false := decide_eq_false (by omega)
    have t3 : decide ((s : Int) > 4096) = false := decide_eq_false (by omega)
    have t4 : decide (4096 < s) = false := decide_eq_false (by omega)
    go_enter Tryd.func26, Tryd.ntmps26
    go_wp2_with fail
    refine (CS.out _ HB0.out).mono ?_
    rintro e1 w1 ⟨rfl, hb⟩
    have HB1 := Lib.hid (HB0.out.trans (hb.mono HB0.out.size))
    have HK1 := Lib.hid (HK0.out.bel hb)
    clear hb HB0 HK0 hg
    have q0 := HK1.out.cell 0 rfl
    go_wp2_with fail
    clear q0
    go_loopw [3] (fun i wr => ∃ k : Nat, k ≤ n ∧ i = .int .i64 k ∧ Hid (Blk g #[.slice A n c] 24 wr) ∧ Hid (Below w.heap.size w wr) ∧ Hid (mayN N = firstE n (N.drop k))) (fun i _ => n - (intOf i).toNat)
    case atStart => exact ⟨0, by omega, rfl, HK1, HB1, HE⟩
    case round =>
      clear HK1 HB1 HE
      obtain ⟨k, hk, rfl, HK, HB, HM⟩ := hrel
      have q0 := HK.out.cell 0 rfl
      by_cases hlt : k < n
      · have hkl : k < N.length := by rw [HN.out]; exact hlt
        have hki : (k : Int) < (n : Int) := by omega
        have hkz : (0 : Int) ≤ (k : Int) := by omega
        obtain ⟨ad, B, m, rfl, hcell, _, _, hr⟩ := (HS0.out wr HB.out).at_ k hkl
        have hcl : ∀ wx, Below wr.heap.size wr wx → wx.cell? (ad.add k) = some (.slice B N[k].length m) := fun wx hx => by
          obtain ⟨ad', B', m', e, hcell', _⟩ := (HS0.out wx (HB.out.trans (hx.mono HB.out.size))).at_ k hkl
          injection e with e
          subst e
          have h1 : wr.cell? (ad.add k) = some (.slice B N[k].length m) := hcell
          rw [hx.cell (p := ad.add k) (by
            have h2 := h1
            unfold World.cell? at h2
            rcases Nat.lt_or_ge (ad.add k).block wr.heap.size with h3 | h3
            · exact h3
            · rw [Array.getElem?_eq_none h3] at h2; simp at h2)]
          exact h1
        have HCL : Hid (∀ wx, Below wr.heap.size wr wx → wx.cell? ⟨g, 0, none⟩ = some (.slice (some ad) n c) ∧ wx.cell? (ad.add k) = some (.slice B N[k].length m)) := fun wx hx => ⟨(HK.out.bel hx).cell 0 rfl, hcl wx hx⟩
        have CM := Lib.hid (fun w' (hx : Below wr.heap.size wr w') => rmayT_any _ N[k] n w' (hr.bel hx) (HW.out.at_ hkl))
        have hf := firstE_drop N (n : Int) k hkl
        generalize mayT N[k] n = e at *
        generalize N[k].length = L at *
        have HF := Lib.hid hf
        have HD := Lib.hid (Below.refl wr.heap.size wr).drew
        clear hf hr hcl hcell
        obtain ⟨q0, q1⟩ := HCL.out wr (Below.refl _ _)
        go_upto_region 6 with fail
        go_cut [4] (fun x wx => x = .int .i64 e ∧ Hid (Below wr.heap.size wr wx))
        case first =>
          go_region_held3 (fun w' => w'.cell? ⟨g, 0, none⟩ = some (.slice (some ad) n c) ∧ w'.cell? (ad.add k) = some (.slice B L m))
            (first | go_keep | exact HCL.out _ HD.out | exact HCL.out _ D0.out)
            (first
              | (go_simp; go_at_call 47; refine (CM.out _ HD.out).mono ?_; rintro e8 w8 ⟨rfl, hb8⟩; have D0 := Lib.hid (HD.out.trans (hb8.mono HD.out.size)); clear hb8))
          all_goals
            go_wp2_with fail
            go_meet
            exact ⟨rfl, D0⟩
        case rest =>
          obtain ⟨rfl, HBc⟩ := hcut
          generalize wc = wd at *
          have HKd := Lib.hid (HK.out.bel HBc.out)
          have HBd := Lib.hid (HB.out.trans (HBc.out.mono HB.out.size))
          clear HBc HD CM HCL q0 q1 HK HB
          by_cases he : e = 0
          · subst he
            have HM2 : Hid (mayN N = firstE n (N.drop (k + 1))) := by show _ = _; rw [HM.out, HF.out, if_neg (by simp)]
            have q0 := HKd.out.cell 0 rfl
            clear HM HF
            go_wp2_with fail
            go_roundw
            case rel => exact ⟨k + 1, by omega, by go_num, HKd, HBd, HM2⟩
            case measure => simp [intOf]; omega
          · have HM2 : Hid (mayN N = e) := by show _ = _; rw [HM.out, HF.out, if_pos he]
            have t5 : (e != 0) = true := by rw [bne_iff_ne]; exact he
            clear HM HF
            go_wp2_with fail
            go_ret
            exact ⟨by rw [HM2.out]; rfl, HBd.out⟩
      · obtain rfl : k = n := by omega
        have HM2 : Hid (mayN N = 0) := by
          show _ = _
          rw [HM.out, List.drop_of_length_le (by rw [HN.out]; exact Nat.le_refl _)]
          rfl
        go_wp2_with fail
        go_ret
        exact ⟨by rw [HM2.out]; rfl, HB.out⟩
end Go.Proofs.YtohggpaffmcfoaaDoor
