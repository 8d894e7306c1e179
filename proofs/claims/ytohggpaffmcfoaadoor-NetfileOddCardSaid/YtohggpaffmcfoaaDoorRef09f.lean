/- Contract of package theseusref09: Fit: a network that may be. -/
import Derived.Test.YtohggpaffmcfoaaDoorNetOwn
import Derived.Test.YtohggpaffmcfoaaDoorBlk
import Derived.Deep.DeepCutAuto
import Derived.Deep.RegionLaw
import Derived.Deep.AppendLies
import Derived.Lib.MinMax
import Derived.Laws.CopyOwn
namespace Go.Proofs.YtohggpaffmcfoaaDoor
open Go.RowKit
set_option linter.unusedVariables false
set_option maxRecDepth 100000
set_option linter.unusedSimpArgs false

theorem max_many (n : Nat) : max (1 : Int) (min (n : Int) 8) = ((max 1 (min n 8) : Nat) : Int) := by omega
theorem isr_new (w : World) : IsR (w.alloc (.cells #[] 47)) (.slice (some ⟨w.heap.size, 0, none⟩) 0 0) [] := ⟨_, _, _, rfl, Nat.le_refl _, Nat.zero_le _, rfl, Has.nil_ _ _⟩
set_option maxHeartbeats 8000000 in
theorem rfitN_own (v : Value) (N : Nt) (w : World) (hv : IsN w v N) (hwf : WfN N) :
    Calls Tryd.prog 19 #[v] w fun e w' => ∃ u, e = .returned u ∧ OwnN w.heap.size u (fitNt N) w' ∧ Below w.heap.size w w' := by
  obtain ⟨A, c, rfl, hc, hm, hS⟩ := hv.slice
  obtain ⟨n, hn⟩ : ∃ n, N.length = n := ⟨_, rfl⟩
  rw [hn] at hc hS ⊢
  have HN := Lib.hid hn
  have hnm : (n : Int) ≤ 9223372036854775807 := by unfold maxLen at hm; omega
  have hmx := max_many n
  obtain ⟨M, hM⟩ : ∃ M, max 1 (min n 8) = M := ⟨_, rfl⟩
  rw [hM] at hmx
  have hM0 : 1 ≤ (M : Int) := by omega
  have hM8 : (M : Int) ≤ 8 := by omega
  have HMN : Hid (manyN N = M) := by show _ = _; unfold manyN; rw [hn]; exact hM
  have HW := Lib.hid hwf
  have HII := Lib.hid row_info
  have HSN : Hid (∀ wx, Below w.heap.size w wx → IsS wx (.slice A n c) N) := fun wx hx => hS.bel hx
  obtain ⟨g, hg⟩ : ∃ g, w.heap.size = g := ⟨_, rfl⟩
  have HGG := Lib.hid hg
  have hA1 : ((w.alloc (.cells #[.slice A n c] 24)).alloc (.cells #[.slice none 0 0] 24)).heap.size = g + 2 := by rw [World.size_alloc, World.size_alloc, hg]
  have HK1 : Hid (Blk g #[.slice A n c] 24 (((w.alloc (.cells #[.slice A n c] 24)).alloc (.cells #[.slice none 0 0] 24)).alloc (.cells #[.slice none 0 0] 24))) := by
    subst hg
    exact ((Blk.new w _ _).bel ((Below.refl _ _).alloc (Nat.le_refl _) _)).bel ((Below.refl _ _).alloc (Nat.le_refl _) _)
  have HR1 : Hid (Blk (g + 1) #[.slice none 0 0] 24 (((w.alloc (.cells #[.slice A n c] 24)).alloc (.cells #[.slice none 0 0] 24)).alloc (.cells #[.slice none 0 0] 24))) := by
    have h := Blk.new (w.alloc (.cells #[.slice A n c] 24)) #[.slice none 0 0] 24
    rw [World.size_alloc, hg] at h
    exact h.bel ((Below.refl _ _).alloc (Nat.le_refl _) _)
  have HG1 : Hid (Blk (g + 2) #[.slice none 0 0] 24 (((w.alloc (.cells #[.slice A n c] 24)).alloc (.cells #[.slice none 0 0] 24)).alloc (.cells #[.slice none 0 0] 24))) := by
    have h := Blk.new ((w.alloc (.cells #[.slice A n c] 24)).alloc (.cells #[.slice none 0 0] 24)) #[.slice none 0 0] 24
    rw [hA1] at h
    exact h
  have HB1 : Hid (Below g w (((w.alloc (.cells #[.slice A n c] 24)).alloc (.cells #[.slice none 0 0] 24)).alloc (.cells #[.slice none 0 0] 24))) := by
    subst hg
    exact (((Below.refl w.heap.size w).alloc (Nat.le_refl _) _).alloc (by simp only [World.size_alloc]; omega) _).alloc (by simp only [World.size_alloc]; omega) _
  have hsz1 : g + 3 ≤ (((w.alloc (.cells #[.slice A n c] 24)).alloc (.cells #[.slice none 0 0] 24)).alloc (.cells #[.slice none 0 0] 24)).heap.size := by rw [World.size_alloc, hA1]; omega
  have HZ1 := Lib.hid hsz1
  clear hv hS hn hc hm hM hwf hA1 hsz1
  go_enter Tryd.func19, Tryd.ntmps19
  go_upto_region 2 with fail
  clear hg
  generalize (((w.alloc (.cells #[.slice A n c] 24)).alloc (.cells #[.slice none 0 0] 24)).alloc (.cells #[.slice none 0 0] 24)) = w1 at *
  have q0 := HK1.out.cell 0 rfl
  go_wp2
  clear q0
  go_loopw [5] (fun i wr => ∃ k : Nat, ∃ x : Value, ∃ vs : List Value, k ≤ M ∧ i = .int .i64 k ∧ Hid (Blk g #[.slice A n c] 24 wr) ∧ Hid (Blk (g + 1) #[.slice none 0 0] 24 wr) ∧ Hid (Blk (g + 2) #[x] 24 wr) ∧ Hid (wr.ownsRow (g + 3) 42 1 x k vs) ∧ Hid (RowsOwn (g + 3) ((List.range k).map fun i => fitT (M : Int) (N.getD i [])) vs wr) ∧ Hid (g + 3 ≤ wr.heap.size) ∧ Hid (Below g w wr)) (fun i _ => M - (intOf i).toNat)
  case atStart => exact ⟨0, .slice none 0 0, [], by omega, rfl, HK1, HR1, HG1, World.ownsRow_nil _ _ _ _, RowsOwn.nil _ _, HZ1, HB1⟩
  case round =>
    clear HK1 HR1 HG1 HZ1 HB1
    obtain ⟨k, x, vs, hk, rfl, HK, HR, HG, HO, HT, HZ, HB⟩ := hrel
    generalize wr = wo at *
    by_cases hlt : k < M
    · have hki : (k : Int) < (M : Int) := by omega
      have hkz : (0 : Int) ≤ (k : Int) := by omega
      have hsw : g ≤ wo.heap.size := by have := HZ.out; omega
      have hBA : Below wo.heap.size wo (wo.alloc (.cells #[] 47)) := (Below.refl _ _).alloc (Nat.le_refl _) _
      have HV0 := Lib.hid (isr_new wo)
      have HBA := Lib.hid hBA
      clear hBA
      have q0 := (HK.out.bel HBA.out).cell 0 rfl
      go_upto_region 7 with fail
      go_upto_if 23 with fail
      go_cut [6] (fun l wx => Hid (IsR wx l (N.getD k [])) ∧ Hid (Below wo.heap.size wo wx))
      case first =>
        by_cases hkn : k < n
        · have hkl : k < N.length := by rw [HN.out]; exact hkn
          have hkni : (k : Int) < (n : Int) := by omega
          have hd : decide ((k : Int) < (n : Int)) = true := decide_eq_true hkni
          have hd2 : decide (k < n) = true := decide_eq_true hkn
          obtain ⟨ad, B, m, rfl, hcell, _, _, hr⟩ := (HSN.out _ (by rw [HGG.out]; exact HB.out.trans (HBA.out.mono hsw))).at_ k hkl
          have HV : Hid (IsR (wo.alloc (.cells #[] 47)) (.slice B N[k].length m) (N.getD k [])) := by rw [getD_in hkl]; exact hr
          clear hr
          generalize N[k].length = L at *
          go_wp2_with fail
          go_meet
          exact ⟨HV, HBA⟩
        · have hd : decide ((k : Int) < (n : Int)) = false := decide_eq_false (by omega)
          have hd2 : decide (k < n) = false := decide_eq_false hkn
          have hkni : ¬ (k : Int) < (n : Int) := by omega
          have HV : Hid (IsR (wo.alloc (.cells #[] 47)) (.slice (some ⟨wo.heap.size, 0, none⟩) 0 0) (N.getD k [])) := by rw [getD_out (by rw [HN.out]; omega)]; exact HV0.out
          go_wp2_with fail
          go_meet
          exact ⟨HV, HBA⟩
      case rest =>
        obtain ⟨HV, HBc⟩ := hcut
        generalize wc = wd at *
        clear q0 HV0 HBA
        have HKd := Lib.hid (HK.out.bel HBc.out)
        have HRd := Lib.hid (HR.out.bel HBc.out)
        have HGd := Lib.hid (HG.out.bel HBc.out)
        have HOd := Lib.hid (own_bel HO.out HBc.out)
        have HTd := Lib.hid (HT.out.bel HBc.out)
        have HBd := Lib.hid (HB.out.trans (HBc.out.mono hsw))
        have hsd : g + 3 ≤ wd.heap.size := by have := HZ.out; have := HBc.out.size; omega
        clear HK HR HG HO HT HB HBc HZ hsw
        have hat : ∀ r ∈ N.getD k [], r.at_ ≤ 4294967295 := fun r hr => by
          rcases Nat.lt_or_ge k N.length with g1 | g1
          · rw [getD_in g1] at hr
            exact HW.out.at_ g1 r hr
          · rw [getD_out g1] at hr
            cases hr
        obtain ⟨F, hF⟩ : ∃ F, fitT (M : Int) (N.getD k []) = F := ⟨_, rfl⟩
        obtain ⟨L8, hL⟩ : ∃ L, F.length = L := ⟨_, rfl⟩
        have HL8 := Lib.hid hL
        have CF : Hid (∀ v' w', IsR w' v' (N.getD k []) → Calls Tryd.prog 38 #[v', .int .i64 M] w' fun e w'' => ∃ r, e = .returned r ∧ w''.ownsRow w'.heap.size 47 4 r L8 (rcells F) ∧ Below w'.heap.size w' w'') := fun v' w' hv' => by
          have h := rfitT_any v' (N.getD k []) M w' hv' hat hM0 (by omega)
          rw [hF, hL] at h
          exact h
        have HST : Hid ((List.range (k + 1)).map (fun i => fitT (M : Int) (N.getD i [])) = (List.range k).map (fun i => fitT (M : Int) (N.getD i [])) ++ [F]) := by
          show _ = _
          rw [range_succ_map, hF]
        clear hat hF hL
        have HD := Lib.hid (Below.refl wd.heap.size wd).drew
        have HVD := Lib.hid (HV.out.bel HD.out)
        have q1 : wd.drew.cell? ⟨g + 2, 0, none⟩ = some x := (HGd.out.bel HD.out).cell 0 rfl
        obtain ⟨i0, hi0, hz0, hz1, hz2⟩ := info_parts HII.out
        go_upto_region 9 with fail
        go_region_law (first
          | (go_simp
             go_at_call 38
             refine (CF.out _ _ HVD.out).mono ?_
             rintro e8 w8 ⟨t8, rfl, hown8, hb8⟩
             have D8 := Lib.hid (HD.out.trans (hb8.mono HD.out.size))
             have q8 : w8.cell? ⟨g + 2, 0, none⟩ = some x := (HGd.out.bel D8.out).cell 0 rfl
             obtain ⟨A8, c8, hh8, _, _, _⟩ := (IsR.of_own hown8).slice
             rw [HL8.out] at hh8
             subst hh8
             have HT8 : Hid (OwnR 47 (g + 3) (.slice A8 L8 c8) F w8) := OwnR.mk hown8 (by have := HD.out.size; omega)
             have q8a : (w8.alloc (.cells #[.slice A8 L8 c8] 42)).cell? ⟨g + 1 + 1, 0, none⟩ = some x := (HGd.out.bel (D8.out.alloc D8.out.size _)).cell 0 rfl
             clear hown8 hb8)
          | (refine step_append_has _ (by rfl) (.tmp 30) (.tmp 34) _ (by rfl) (g + 3) 42 i0 (.slice none 0 0) 24 Tryd.underlying22 hi0 hz0 hz1 hz2 rfl x k vs (by rfl) (own_bel HOd.out (D8.out.alloc D8.out.size (.cells #[.slice A8 L8 c8] 42))) _ 1 _ [.slice A8 L8 c8] (by rfl) rfl (Has.new w8 [.slice A8 L8 c8] 42 (0, 0)) (by simp [Value.oneCell']) (by unfold maxLen; omega) (by omega) (by have := D8.out.size; simp only [World.size_alloc]; omega) ?_
             intro v9 w9 hown9 hgrow9 hat9
             obtain ⟨b9, c9, hv9, _, _⟩ := World.ownsRow.form hown9 (by omega)
             subst hv9
             have hne9 : ∀ q, q < g + 3 → x.ownBlock ≠ some q := fun q hq e => by have := (HOd.out.lt q e).1; omega
             have D9 : Below wd.heap.size wd (w8.alloc (.cells #[.slice A8 L8 c8] 42)) := D8.out.alloc D8.out.size _
             have HG9 := Lib.hid ((HGd.out.bel D9).grown hgrow9 (hne9 (g + 2) (by omega)))
             have q9 : w9.cell? ⟨g + 2, 0, none⟩ = some x := HG9.out.cell 0 rfl
             have z9 : w9.frozen? ⟨g + 2, 0, none⟩ = false := HG9.out.froz 0))
        all_goals
          have HK9 : Hid (Blk g #[.slice A n c] 24 (w9.setCell ⟨g + 2, 0, none⟩ (.slice (some ⟨b9, 0, none⟩) (k + 1) c9))) := ((HKd.out.bel D9).grown hgrow9 (hne9 g (by omega))).far (g + 2) 0 _ (by omega)
          have HR9 : Hid (Blk (g + 1) #[.slice none 0 0] 24 (w9.setCell ⟨g + 2, 0, none⟩ (.slice (some ⟨b9, 0, none⟩) (k + 1) c9))) := ((HRd.out.bel D9).grown hgrow9 (hne9 (g + 1) (by omega))).far (g + 2) 0 _ (by omega)
          have HG10 : Hid (Blk (g + 2) #[(.slice (some ⟨b9, 0, none⟩) (k + 1) c9)] 24 (w9.setCell ⟨g + 2, 0, none⟩ (.slice (some ⟨b9, 0, none⟩) (k + 1) c9))) := HG9.out.set 0 _ rfl
          have HO10 : Hid ((w9.setCell ⟨g + 2, 0, none⟩ (.slice (some ⟨b9, 0, none⟩) (k + 1) c9)).ownsRow (g + 3) 42 1 (.slice (some ⟨b9, 0, none⟩) (k + 1) c9) (k + 1) (vs ++ [.slice A8 L8 c8])) := ownsRow_setCell_below hown9 (by show g + 2 < g + 3; omega) _
          have HT10 : Hid (RowsOwn (g + 3) ((List.range (k + 1)).map fun i => fitT (M : Int) (N.getD i [])) (vs ++ [.slice A8 L8 c8]) (w9.setCell ⟨g + 2, 0, none⟩ (.slice (some ⟨b9, 0, none⟩) (k + 1) c9))) := by
            rw [HST.out]
            exact (((HTd.out.bel D8.out).snoc HT8.out).bel ((Below.refl _ _).alloc (Nat.le_refl _) _) |>.grown (own_bel HOd.out D9) hgrow9).far HG9.out (by decide) _
          have HB10 : Hid (Below g w (w9.setCell ⟨g + 2, 0, none⟩ (.slice (some ⟨b9, 0, none⟩) (k + 1) c9))) := ((HBd.out.trans (D9.mono (by omega))).grown hgrow9 (by have := D9.size; omega) (fun q hq => by have := (HOd.out.lt q hq).1; omega)).setCell (p := ⟨g + 2, 0, none⟩) (by show g ≤ g + 2; omega) _
          have HZ10 : Hid (g + 3 ≤ (w9.setCell ⟨g + 2, 0, none⟩ (.slice (some ⟨b9, 0, none⟩) (k + 1) c9)).heap.size) := by
            show _ ≤ _
            have h1 := hgrow9.size
            have h2 := D9.size
            simp only [World.size_setCell]
            omega
          clear hown9 hgrow9 hat9 hne9 D9 HG9 q9 z9 q1 q8 q8a HKd HRd HGd HOd HTd HBd CF HST HD HVD D8 HT8 hi0 hz0 hz1 hz2
          go_wp2_with fail
          go_roundw
          case rel => exact ⟨k + 1, (.slice (some ⟨b9, 0, none⟩) (k + 1) c9), _, by omega, by go_num, HK9, HR9, HG10, HO10, HT10, HZ10, HB10⟩
          case measure => simp [intOf]; omega
    · obtain rfl : k = M := by omega
      have HU : Hid (OwnN w.heap.size (.agg #[x]) (fitNt N) (wo.setRow (g + 1) #[x])) := by
        have h1 := (HT.out.kept (setRow_grown wo (g + 1) #[x]) (by omega)).base (base' := w.heap.size) (by rw [HGG.out]; omega)
        have h2 := own_base (base' := w.heap.size) (own_kept HO.out (setRow_grown wo (g + 1) #[x]) (by omega)) (by rw [HGG.out]; omega)
        refine ⟨x, vs, rfl, ?_, ?_⟩
        · rw [fitNt_len, HMN.out]
          exact h2
        · unfold fitNt
          rw [HMN.out]
          exact h1
      have hki : ¬ (k : Int) < (k : Int) := by omega
      have HRR := HR.out
      have HGL := HG.out
      go_wp2_with (first | (refine wpList_load_row rfl 24 (.tmp 3) rfl (g + 2) rfl 24 #[x] (0, 0) _ HGL Tryd.underlying24 rfl rfl ?_) | (refine wpList_store_row rfl 24 (.tmp 2) (.tmp 37) rfl (g + 1) #[x] rfl rfl 24 #[.slice none 0 0] HRR rfl rfl (by obtain ⟨A9, c9, h9, _⟩ := HU.out.isN.slice; injection h9 with h9; simp at h9; subst h9; simp [Value.oneCell']) ?_))
      (try simp only [Exit.inBlock, Exit.then])
      exact bodyPost_ret (results_cell_row rfl _ _ (g + 1) 24 #[x] (0, 0) _ rfl (setRow_heap _ _ _ _ _ _ HRR) Tryd.underlying24 rfl rfl) rfl ⟨_, rfl, HU.out, below_setRow (by rw [HGG.out]; exact HB.out) (by rw [HGG.out]; omega) _⟩
theorem rfitN_any (v : Value) (N : Nt) (w : World) (hv : IsN w v N) (hwf : WfN N) :
    Calls Tryd.prog 19 #[v] w fun e w' => ∃ u, e = .returned u ∧ IsN w' u (fitNt N) ∧ Below w.heap.size w w' :=
  (rfitN_own v N w hv hwf).mono fun e w' ⟨u, h1, h2, h3⟩ => ⟨u, h1, h2.isN, h3⟩
end Go.Proofs.YtohggpaffmcfoaaDoor
