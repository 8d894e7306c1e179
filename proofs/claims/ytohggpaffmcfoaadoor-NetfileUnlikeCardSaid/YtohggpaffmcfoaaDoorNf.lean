/- Contracts of netfile's Take: all nodes of bytes, the network in a frame. -/
import Derived.Test.YtohggpaffmcfoaaDoorNfT
import Derived.Test.YtohggpaffmcfoaaDoorNetM
import Derived.Test.YtohggpaffmcfoaaDoorMid
import Derived.Defers
import Derived.Tactics
import Derived.Tactics2
import Derived.Deep.DeepCutAuto
import Derived.Deep.RegionHeld3
import Derived.Deep.RegionWith
import Derived.StillTailTactics
import Derived.Laws.ResultCell
import Derived.Laws.CopyOwn
import Derived.Laws.Rows
import Derived.Laws.Tables
namespace Go.Proofs.YtohggpaffmcfoaaDoor
open Go.RowKit
set_option linter.unusedVariables false
set_option maxRecDepth 100000
set_option linter.unusedSimpArgs false
attribute [local go_sem ↓] sliced_cut

/-- the nodes of bytes, before it is asked whether they may be -/
def colT (b : List UInt8) : Nt × Int :=
  if (takeG b).2.2 ≠ 0 then ([], (takeG b).2.2) else if 256 < (takeG b).1 then ([], 12) else
  if (netsA [] (takeG b).1.toNat (b.drop (takeG b).2.1.toNat)).2.2 ≠ 0 then ([], (netsA [] (takeG b).1.toNat (b.drop (takeG b).2.1.toNat)).2.2) else
  if 0 < (netsA [] (takeG b).1.toNat (b.drop (takeG b).2.1.toNat)).2.1.length then ([], 4) else ((netsA [] (takeG b).1.toNat (b.drop (takeG b).2.1.toNat)).1, 0)
theorem bodyT_col (b : List UInt8) : bodyT b = if (colT b).2 ≠ 0 then ([], (colT b).2) else if mayN (colT b).1 ≠ 0 then ([], mayN (colT b).1) else ((colT b).1, 0) := by
  unfold bodyT colT endT
  by_cases h1 : (takeG b).2.2 = 0
  · by_cases h2 : 256 < (takeG b).1
    · simp [h1, h2]
    · by_cases h3 : (netsA [] (takeG b).1.toNat (b.drop (takeG b).2.1.toNat)).2.2 = 0
      · by_cases h4 : 0 < (netsA [] (takeG b).1.toNat (b.drop (takeG b).2.1.toNat)).2.1.length
        · simp [h1, h2, h3, h4]
        · simp [h1, h2, h3, h4]
      · simp [h1, h2, h3]
  · simp [h1]
/-- the nodes that are taken: of such sizes, and of addresses -/
theorem colT_facts {b : List UInt8} (h : (colT b).2 = 0) (hb : (b.length : Int) ≤ 1000000) : szN (colT b).1 ≤ 1000000 ∧ WfN (colT b).1 := by
  unfold colT at h ⊢
  by_cases h1 : (takeG b).2.2 = 0
  · rw [if_neg (by simpa using h1)] at h ⊢
    by_cases h2 : 256 < (takeG b).1
    · rw [if_pos h2] at h; cases h
    · rw [if_neg h2] at h ⊢
      by_cases h3 : (netsA [] (takeG b).1.toNat (b.drop (takeG b).2.1.toNat)).2.2 = 0
      · rw [if_neg (by simpa using h3)] at h ⊢
        by_cases h4 : 0 < (netsA [] (takeG b).1.toNat (b.drop (takeG b).2.1.toNat)).2.1.length
        · rw [if_pos h4] at h; cases h
        · rw [if_neg h4]
          obtain ⟨N, n1, n2, n3, n4⟩ := netsA_taken _ [] _ h3
          rw [List.nil_append] at n2
          simp only
          rw [n2]
          refine ⟨?_, n4⟩
          have g1 := sectsB_ge N
          have g2 := congrArg List.length n3
          rw [List.length_append, List.length_drop] at g2
          omega
      · rw [if_pos h3] at h
        exact absurd h h3
  · rw [if_pos h1] at h
    exact absurd h h1
theorem OwnN.set {base q : Nat} {v : Value} {N : Nt} {w : World} (h : OwnN base v N w) (hq : q < base) (u : Value) : OwnN base v N (w.setCell ⟨q, 0, none⟩ u) :=
  h.kept (q := q) ⟨rfl, rfl, rfl, by simp, fun k _ hk => heap_setCell_other w ⟨q, 0, none⟩ k u (fun e => hk (by rw [e]))⟩ hq
theorem is_slice_nil : ∃ A n c, (.slice none 0 0 : Value) = .slice A n c := ⟨_, _, _, rfl⟩
theorem is_slice_own {w : World} {base size n : Nat} {e : TypeId} {v : Value} {xs : List Value} (h : w.ownsRow base e size v n xs) : ∃ A n c, v = .slice A n c := by
  rcases h.2 with ⟨rfl, _⟩ | ⟨g, cap, cur, rfl, _⟩
  · exact ⟨_, _, _, rfl⟩
  · exact ⟨_, _, _, rfl⟩
set_option maxHeartbeats 4000000 in
theorem nfns_own (v : Value) (b : List UInt8) (w : World) (hv : IsB w v b) (hbl : (b.length : Int) ≤ 1000000) :
    Calls Tryd.prog 56 #[v, .int .i64 256, .func (.func 57) #[] #[]] w fun e w' => ∃ u, e = .returned (.tuple #[u, .int .i64 (colT b).2]) ∧ (∃ A n c, u = .slice A n c) ∧ ((colT b).2 = 0 → OwnN w.heap.size (.agg #[u]) (colT b).1 w') ∧ Below w.heap.size w w' := by
  obtain ⟨A, N, c, rfl, hnc, hcm, hl, hA⟩ := hv
  have HV : Hid (IsB w (.slice A N c) b) := ⟨A, N, c, rfl, hnc, hcm, hl, hA⟩
  have CG := Lib.hid (gtake_any (.slice A N c) b w HV.out)
  have HL := Lib.hid hl
  have HBL := Lib.hid hbl
  have nil : ∀ wx, OwnN w.heap.size (.agg #[.slice none 0 0]) [] wx := fun wx => ⟨_, [], rfl, World.ownsRow_nil _ _ _ _, RowsOwn.nil _ _⟩
  have HN := Lib.hid nil
  unfold maxLen at hcm
  clear hl hA nil hbl
  go_enter Tryd.func56, Tryd.ntmps56
  rcases taken_grp b with ⟨n, hn, ht, hg1, hg2⟩ | ht | ⟨ht, _⟩
  · have HT : Hid (takeG b = ((n : Int), (gsize n : Int), 0)) := ht
    rw [ht] at CG
    rw [HL.out] at hg1
    obtain ⟨s, hs⟩ : ∃ s, gsize n = s := ⟨_, rfl⟩
    rw [hs] at CG hg1
    have HS := Lib.hid hs
    clear ht hg2 hs
    by_cases hbig : 256 < n
    · have HE : Hid (colT b = ([], 12)) := by
        show _ = _
        unfold colT
        rw [HT.out]
        simp only [ne_eq, not_true_eq_false, if_false]
        rw [if_pos (by omega)]
      have t1 : decide ((n : Int) > 256) = true := decide_eq_true (by omega)
      have t2 : decide (256 < n) = true := decide_eq_true hbig
      go_wp2_with fail
      refine CG.out.mono ?_
      rintro e1 w1 ⟨rfl, rfl⟩
      go_wp2_with fail
      go_ret2
      exact ⟨_, by rw [HE.out]; rfl, is_slice_nil, fun h => (by rw [HE.out] at h; cases h), Below.refl _ _⟩
    · have t1 : decide ((n : Int) > 256) = false := decide_eq_false (by omega)
      have t2 : decide (256 < n) = false := decide_eq_false hbig
      have hnb : (n : Int) ≤ 256 := by omega
      obtain ⟨b0, hb0⟩ : ∃ b0, b.drop s = b0 := ⟨_, rfl⟩
      have HE : Hid (colT b = if (netsA [] n b0).2.2 ≠ 0 then ([], (netsA [] n b0).2.2) else if 0 < (netsA [] n b0).2.1.length then ([], 4) else ((netsA [] n b0).1, 0)) := by
        show _ = _
        unfold colT
        rw [HT.out]
        simp only [ne_eq, not_true_eq_false, if_false, Int.toNat_natCast]
        rw [if_neg (by omega), HS.out, hb0]
      have HL0 : Hid ((b0.length : Int) ≤ 1000000) := by
        have h1 := HBL.out
        show _ ≤ _
        rw [← hb0, List.length_drop]
        omega
      have HV0 : Hid (IsB w (.slice (cutA A c s 1) (N - s) (c - s)) b0) := by
        rw [← hb0]
        exact HV.out.from_ hg1
      obtain ⟨R, hR⟩ : ∃ R, netsA [] n b0 = R := ⟨_, rfl⟩
      rw [hR] at HE
      have HR0 : Hid (netsA [] (n - 0) b0 = R) := hR
      have hsc : s ≤ c := by omega
      have hsi : (s : Int) ≤ (N : Int) := by omega
      have hsci : (s : Int) ≤ (c : Int) := by omega
      have HII := Lib.hid row_info
      obtain ⟨g, hg⟩ : ∃ g, w.heap.size = g := ⟨_, rfl⟩
      have HGG := Lib.hid hg
      have HO0 : Hid (w.ownsRow g 42 1 (.slice none 0 0) 0 []) := World.ownsRow_nil _ _ _ _
      have HRW0 : Hid (RowsOwn g [] [] w) := RowsOwn.nil _ _
      have HB0 : Hid (Below g w w) := Below.refl _ _
      clear hb0 hR hbig
      go_wp2_with fail
      refine CG.out.mono ?_
      rintro e1 w1 ⟨rfl, rfl⟩
      clear CG
      go_wp2_with fail
      have HV1 := HV0
      clear hg t1 t2 HV0 HV
      go_loopw [0, 6, 29] (fun x y i wr => ∃ k : Nat, k ≤ n ∧ i = .int .i64 k ∧ ∃ (acc : Nt) (bi : List UInt8) (vs : List Value), Hid (netsA acc (n - k) bi = R) ∧ Hid ((bi.length : Int) ≤ 1000000) ∧ Hid (IsB wr x bi) ∧ Hid (wr.ownsRow g 42 1 y k vs) ∧ Hid (RowsOwn g acc vs wr) ∧ Hid (Below g w wr)) (fun _ _ i _ => n - (intOf i).toNat)
      case atStart => exact ⟨0, by omega, rfl, [], b0, [], HR0, HL0, HV1, HO0, HRW0, HB0⟩
      case round =>
        clear HR0 HL0 HO0 HV1 HRW0 HB0
        obtain ⟨k, hk, rfl, acc, bi, vs, HR, HLB, HV, HO, HRW, HB⟩ := hrel
        have hgw : g ≤ wr.heap.size := by have h1 := HB.out.size; have h2 := HGG.out; omega
        by_cases hlt : k < n
        · have hki : (k : Int) < (n : Int) := by omega
          have CN := Lib.hid (nfnt_own u0 bi wr HV.out (by have := HLB.out; omega))
          have hnk : n - k = (n - (k + 1)) + 1 := by omega
          have HOL := Lib.hid (openF_le 84 bi).2
          go_wp2_with fail
          refine CN.out.mono ?_
          rintro e2 w2 ⟨u, xr, lst, cc, rfl, hcc, hu, hok, hb2⟩
          have HB2 := Lib.hid (HB.out.trans (hb2.mono hgw))
          have HO2 := Lib.hid (own_bel HO.out hb2)
          have HT2 := Lib.hid (HRW.out.bel hb2)
          have HYS : Hid (∀ q, u6.ownBlock = some q → q < wr.heap.size) := own_size1 HO.out
          have HCC := Lib.hid hcc
          clear hb2 CN HB HO HRW HV hcc
          by_cases hc0 : cc = 0
          · subst hc0
            obtain ⟨hl1, hx⟩ := hok rfl
            have HRN : Hid (netsA (acc ++ [lst]) (n - (k + 1)) (openF 84 bi).2.1 = R) := by
              have h := HR.out
              rw [hnk, netsA_yes HCC.out, ← hl1] at h
              exact h
            have HLR : Hid (((openF 84 bi).2.1.length : Int) ≤ 1000000) := by
              have h1 := HLB.out
              have h2 := HOL.out
              show _ ≤ _
              omega
            have HOB2 := Lib.hid hx
            clear hl1 hx hok HCC HR HLB HOL hnk
            generalize (openF 84 bi).2.1 = ro at *
            obtain ⟨Au, cu, rfl, hcu, hmu, hhu⟩ := hu.isr.slice
            have HU2 : Hid (OwnR 47 g (.slice Au lst.length cu) lst w2) := OwnR.mk hu hgw
            obtain ⟨L, hL⟩ : ∃ L, lst.length = L := ⟨_, rfl⟩
            rw [hL] at hcu HU2 ⊢
            have hbx : Below w2.heap.size w2 (w2.alloc (.cells #[.slice Au L cu] 42)) := (Below.refl _ _).alloc (Nat.le_refl _) _
            have hg2 : g ≤ w2.heap.size := by have h1 := HB2.out.size; have h2 := HGG.out; omega
            have hGs : g ≤ (w2.alloc (.cells #[.slice Au L cu] 42)).heap.size := by
              rw [World.size_alloc]
              omega
            have HOA := Lib.hid (own_bel HO2.out hbx)
            have HTA := Lib.hid ((HT2.out.snoc HU2.out).bel hbx)
            have HBA := Lib.hid (HB2.out.trans (hbx.mono hg2))
            have HRA := Lib.hid (HOB2.out.bel hbx)
            have HNA : Hid (Has (w2.alloc (.cells #[.slice Au L cu] 42)) (some ⟨w2.heap.size, 0, none⟩) [.slice Au L cu]) := Has.new w2 [.slice Au L cu] 42 (0, 0)
            have hya : ∀ r, u6.ownBlock = some r → g ≤ r := fun r hr => (HOA.out.lt r hr).1
            have HYA := Lib.hid hya
            obtain ⟨i0, hi0, hz0, hz1, hz2⟩ := info_parts HII.out
            clear HO2 HT2 HB2 HOB2 HU2 hbx hu hhu hL hya
            go_wp2_with (at_builtin; refine wpList_append_has _ rfl (.tmp 42) (.tmp 44) _ rfl g 42 i0 (.slice none 0 0) 24 Tryd.underlying22 hi0 hz0 hz1 hz2 rfl u6 k vs rfl HOA.out _ 1 _ [.slice Au L cu] rfl rfl HNA.out (by simp [Value.oneCell']) (by unfold maxLen; omega) (by omega) hGs ?_; intro v9 w9 hown9 hgrow9 _; have HOW := Lib.hid hown9; have HGR := Lib.hid hgrow9; clear hown9 hgrow9)
            have HTF : Hid (RowsOwn g (acc ++ [lst]) (vs ++ [.slice Au L cu]) w9) := HTA.out.grown HOA.out HGR.out
            have HBF : Hid (Below g w w9) := HBA.out.grown HGR.out hGs (fun r hr => HYA.out r hr)
            have HVF : Hid (IsB w9 xr ro) := by
              have h1 : OwnB 5 wr.heap.size xr ro w9 := World.ownsRow.kept HRA.out HGR.out (by
                rcases hvb' : xr.ownBlock with _ | r
                · exact .inl rfl
                · refine .inr fun e => ?_
                  have h2 := (HRA.out.lt r hvb').1
                  have h3 := HYS.out r e.symm
                  omega)
              exact h1.isb
            clear HOA HTA HBA HRA HNA HYA HGR
            go_roundw
            case rel => exact ⟨k + 1, by omega, by go_num, _, _, _, HRN, HLR, HVF, HOW, HTF, HBF⟩
            case measure => simp [intOf]; omega
          · have HEN : Hid (colT b = ([], cc)) := by
              have h := HR.out
              rw [hnk, netsA_no HCC.out hc0] at h
              show _ = _
              rw [HE.out, ← h]
              exact if_pos hc0
            have t1 : (cc != 0) = true := by rw [bne_iff_ne]; exact hc0
            clear HE HR hok hu
            go_wp2_with fail
            go_ret2
            exact ⟨_, by rw [HEN.out]; rfl, is_slice_own HO2.out, fun h => absurd (show cc = 0 by rw [HEN.out] at h; exact h) hc0, by rw [HGG.out]; exact HB2.out⟩
        · obtain rfl : k = n := by omega
          have hR2 : R = (acc, bi, 0) := by
            have h := HR.out
            rw [Nat.sub_self] at h
            exact h.symm
          obtain ⟨Ai, ni, ci, rfl, hnci, hcmi, hli, hAi⟩ := HV.out
          have HLI := Lib.hid hli
          clear hAi hli
          by_cases h0 : 0 < ni
          · have HE3 : Hid (colT b = ([], 4)) := by
              show _ = _
              rw [HE.out, hR2]
              simp only [ne_eq, not_true_eq_false, if_false]
              rw [if_pos (by rw [HLI.out]; exact h0)]
            have t3 : decide ((ni : Int) > 0) = true := decide_eq_true (by omega)
            have t4 : decide (0 < ni) = true := decide_eq_true h0
            clear HE hR2 HR
            go_wp2_with fail
            go_ret2
            exact ⟨_, by rw [HE3.out]; rfl, is_slice_own HO.out, fun h => (by rw [HE3.out] at h; cases h), by rw [HGG.out]; exact HB.out⟩
          · have HE3 : Hid (colT b = (acc, 0)) := by
              show _ = _
              rw [HE.out, hR2]
              simp only [ne_eq, not_true_eq_false, if_false]
              rw [if_neg (by rw [HLI.out]; exact h0)]
            have t3 : decide ((ni : Int) > 0) = false := decide_eq_false (by omega)
            have t4 : decide (0 < ni) = false := decide_eq_false h0
            have hla : acc.length = k := by
              have h1 := HRW.out.1
              have h2 := HO.out.1
              omega
            have HOF : Hid (OwnN w.heap.size (.agg #[u6]) acc wr) := ⟨u6, vs, rfl, by rw [hla, HGG.out]; exact HO.out, by rw [HGG.out]; exact HRW.out⟩
            clear HE hR2 HR hla
            go_wp2_with fail
            go_ret2
            exact ⟨_, by rw [HE3.out]; rfl, is_slice_own HO.out, fun _ => by rw [HE3.out]; exact HOF.out, by rw [HGG.out]; exact HB.out⟩
  · have HE : Hid (colT b = ([], 3)) := by
      show _ = _
      unfold colT
      rw [ht]
      simp
    rw [ht] at CG
    clear ht
    go_wp2_with fail
    refine CG.out.mono ?_
    rintro e1 w1 ⟨rfl, rfl⟩
    go_wp2_with fail
    go_ret2
    exact ⟨_, by rw [HE.out]; rfl, is_slice_nil, fun h => (by rw [HE.out] at h; cases h), Below.refl _ _⟩
  · have HE : Hid (colT b = ([], 2)) := by
      show _ = _
      unfold colT
      rw [ht]
      simp
    rw [ht] at CG
    clear ht
    go_wp2_with fail
    refine CG.out.mono ?_
    rintro e1 w1 ⟨rfl, rfl⟩
    go_wp2_with fail
    go_ret2
    exact ⟨_, by rw [HE.out]; rfl, is_slice_nil, fun h => (by rw [HE.out] at h; cases h), Below.refl _ _⟩
theorem nfclose (ge gn : Nat) (c : Int) (s : Value) (u : FrameMode) (w : World) (he : Hid (Blk ge #[.int .i64 c] 27 w)) (hn : Hid (Blk gn #[s] 24 w)) :
    CallsD Tryd.prog 55 #[.pointer (some ⟨ge, 0, none⟩), .pointer (some ⟨gn, 0, none⟩)] u w fun e u' w' => u' = u ∧ (e = .returned (.tuple #[]) ∧ w' = if c = 0 then w else w.setRow gn #[.slice none 0 0]) := by
  have q0 := he.out.cell 0 rfl
  have HN := hn.out
  by_cases hc : c = 0
  · have t0 : (c != 0) = false := by simp [hc]
    rw [if_pos hc]
    go_enter_d Tryd.func55, Tryd.ntmps55
    go_wp2
    go_end0
    exact ⟨rfl, rfl⟩
  · have t0 : (c != 0) = true := by simp [hc]
    rw [if_neg hc]
    go_enter_d Tryd.func55, Tryd.ntmps55
    go_wp2_with (first | (refine wpList_store_row rfl 24 (.tmp 1) (.tmp 4) rfl gn #[.slice none 0 0] rfl rfl 24 #[s] HN rfl rfl (by simp [Value.oneCell']) ?_))
    go_end0
    exact ⟨rfl, rfl⟩

theorem results_cell_cell {fn : Func} {p q : Tmp} {ty tz : TypeId} (h : fn.results = #[.cell p ty, .cell q tz]) (tmps : Array Value) (P : Program) (w : World) :
    (results fn tmps).run P w =
      ((asAddr (tmps.getD p undef)).run P w).andThen fun a w₁ => ((loadVar ty a).run P w₁).andThen fun v w₂ => ((asAddr (tmps.getD q undef)).run P w₂).andThen fun b w₃ => ((loadVar tz b).run P w₃).andThen fun u w₄ => .ok (.tuple #[v, u]) w₄ := by
  simp only [results, h]
  simp [Sem.run_bind, Result.andThen]
theorem results_net2 {fn : Func} {p q : Tmp} (h : fn.results = #[.cell p 24, .cell q 27]) (tmps : Array Value) (w : World) (g ge : Nat) (x : Value) (c : Int)
    (hp : tmps.getD p undef = .pointer (some ⟨g, 0, none⟩)) (hq : tmps.getD q undef = .pointer (some ⟨ge, 0, none⟩)) (hg : Blk g #[x] 24 w) (he : Blk ge #[.int .i64 c] 27 w) :
    (results fn tmps).run Tryd.prog w = .ok (.tuple #[.agg #[x], .int .i64 c]) w := by
  have hl := run_loadVar_row (P := Tryd.prog) w g 24 24 #[x] (0, 0) _ hg Tryd.underlying24 rfl (by show _ = some 1; kernel_rfl)
  have hc := he.cell 0 rfl
  have ha : (asAddr (tmps.getD p undef)).run Tryd.prog w = .ok ⟨g, 0, none⟩ w := by rw [hp]; rfl
  have hb : (asAddr (tmps.getD q undef)).run Tryd.prog w = .ok ⟨ge, 0, none⟩ w := by rw [hq]; rfl
  have hm : (loadVar 27 ⟨ge, 0, none⟩).run Tryd.prog w = .ok (.int .i64 c) w := by
    simp [go_sem, hc]
  rw [results_cell_cell h, ha]
  show ((loadVar 24 ⟨g, 0, none⟩).run Tryd.prog w).andThen _ = _
  rw [hl]
  show ((asAddr (tmps.getD q undef)).run Tryd.prog w).andThen _ = _
  rw [hb]
  show ((loadVar 27 ⟨ge, 0, none⟩).run Tryd.prog w).andThen _ = _
  rw [hm]
  rfl
theorem OwnN.base {base base' : Nat} {v : Value} {N : Nt} {w : World} (h : OwnN base v N w) (hb : base' ≤ base) : OwnN base' v N w := by
  obtain ⟨x, vs, rfl, h1, h2⟩ := h
  exact ⟨x, vs, rfl, own_base h1 hb, h2.base hb⟩
theorem OwnN.none (base : Nat) (w : World) : OwnN base (.agg #[.slice none 0 0]) [] w := ⟨_, [], rfl, World.ownsRow_nil _ _ _ _, RowsOwn.nil _ _⟩
set_option maxHeartbeats 8000000 in
/-- the network of the bytes in a frame -/
theorem nfnet_any (v : Value) (b : List UInt8) (w : World) (hv : IsB w v b) (hbl : (b.length : Int) ≤ 1000000) :
    Calls Tryd.prog 30 #[v] w fun e w' => ∃ u, e = .returned (.tuple #[u, .int .i64 (bodyT b).2]) ∧ OwnN w.heap.size u (bodyT b).1 w' ∧ Below w.heap.size w w' := by
  have hmf : ∀ (fn : Fn) (first cap : Array Value) (w : World), (Instr.makeFunc fn first cap).run Tryd.prog w = .ok (.func fn first cap) w := fun _ _ _ _ => rfl
  obtain ⟨g, hg⟩ : ∃ g, w.heap.size = g := ⟨_, rfl⟩
  have HG := Lib.hid hg
  obtain ⟨w1, hW⟩ : ∃ W, (w.alloc (.cells #[.slice none 0 0] 24)).alloc (.cells #[.int .i64 0] 27) = W := ⟨_, rfl⟩
  have hsz : w1.heap.size = g + 2 := by subst hW hg; rw [World.size_alloc, World.size_alloc]
  have HSZ := Lib.hid hsz
  have hb : Below w.heap.size w w1 := by subst hW; exact ((Below.refl _ _).alloc (Nat.le_refl _) _).alloc (by rw [World.size_alloc]; omega) _
  have kn : Blk g #[.slice none 0 0] 24 w1 := by
    subst hW hg
    exact (Blk.new w _ _).bel ((Below.refl _ _).alloc (Nat.le_refl _) _)
  have ke : Blk (g + 1) #[.int .i64 0] 27 w1 := by
    subst hW
    have h := Blk.new (w.alloc (.cells #[.slice none 0 0] 24)) #[.int .i64 0] 27
    rw [World.size_alloc, hg] at h
    exact h
  have C := Lib.hid (nfns_own v b w1 (hv.bel hb) hbl)
  have HBC := Lib.hid (bodyT_col b)
  have HCF := Lib.hid (fun h => colT_facts (b := b) h hbl)
  have KN := Lib.hid kn
  have KE := Lib.hid ke
  have HB := Lib.hid hb
  obtain ⟨f, hf⟩ : ∃ f, colT b = f := ⟨_, rfl⟩
  rw [hf] at C HBC HCF
  obtain ⟨ln, c⟩ := f
  simp only at C HBC HCF
  clear kn ke hb hv hbl hf hsz
  go_enter_defers Tryd.func30, Tryd.ntmps30
  go_wp2_with fail
  clear hW
  refine C.out.mono ?_
  rintro e1 w2 ⟨u, rfl, ⟨A, n, cc, rfl⟩, hown, hb⟩
  have HB2 := Lib.hid (HB.out.trans (hb.mono HB.out.size))
  replace KN := Lib.hid (KN.out.bel hb)
  replace KE := Lib.hid (KE.out.bel hb)
  rw [HSZ.out] at hown
  have HOW := Lib.hid hown
  clear hb C hown HB
  have q0 := KE.out.cell 0 rfl
  have z0 := KE.out.froz 0
  have q1 := KN.out.cell 0 rfl
  have z1 := KN.out.froz 0
  go_upto_region 3 with fail
  obtain ⟨w3, hW3⟩ : ∃ W, (w2.setCell ⟨g, 0, none⟩ (.slice A n cc)).setCell ⟨g + 1, 0, none⟩ (.int .i64 c) = W := ⟨_, rfl⟩
  rw [hW3]
  have HB3 : Hid (Below w.heap.size w w3) := by
    subst hW3
    exact (HB2.out.setCell (p := ⟨g, 0, none⟩) (by show _ ≤ g; omega) _).setCell (p := ⟨g + 1, 0, none⟩) (by show _ ≤ g + 1; omega) _
  have HOW3 : Hid (c = 0 → OwnN (g + 2) (.agg #[.slice A n cc]) ln w3) := by
    subst hW3
    exact fun h => ((HOW.out h).set (by omega) _).set (by omega) _
  replace KN : Hid (Blk g #[.slice A n cc] 24 w3) := by subst hW3; exact (KN.out.set 0 _ rfl).far (g + 1) 0 _ (by omega)
  replace KE : Hid (Blk (g + 1) #[.int .i64 c] 27 w3) := by subst hW3; exact (KE.out.far g 0 _ (by omega)).set 0 _ rfl
  clear hW3 q0 z0 q1 z1 HB2 HOW
  have q0 := KE.out.cell 0 rfl
  have z1 : w3.drew.frozen? ⟨g + 1, 0, none⟩ = false := KE.out.froz 0
  have q2 : w3.drew.cell? ⟨g, 0, none⟩ = some (.slice A n cc) := KN.out.cell 0 rfl
  have z2 : w3.drew.frozen? ⟨g, 0, none⟩ = false := KN.out.froz 0
  have z3 : w3.frozen? ⟨g + 1, 0, none⟩ = false := KE.out.froz 0
  have z4 : w3.frozen? ⟨g, 0, none⟩ = false := KN.out.froz 0
  have q4 : w3.cell? ⟨g, 0, none⟩ = some (.slice A n cc) := KN.out.cell 0 rfl
  by_cases hc0 : c = 0
  · subst hc0
    have q5 : w3.drew.cell? ⟨g + 1, 0, none⟩ = some (.int .i64 0) := KE.out.cell 0 rfl
    obtain ⟨hs, hwf⟩ := HCF.out rfl
    have HOW4 := Lib.hid (HOW3.out rfl)
    have HBC2 : Hid (bodyT b = if mayN ln ≠ 0 then ([], mayN ln) else (ln, 0)) := by
      show _ = _
      rw [HBC.out]
      simp
    have HDR : Hid (Below w3.heap.size w3 w3.drew) := (Below.refl _ _).drew
    have CM := Lib.hid (nmay_any (.agg #[.slice A n cc]) ln w3.drew (HOW4.out.bel HDR.out).isN hs hwf)
    obtain ⟨em, hem⟩ : ∃ em, mayN ln = em := ⟨_, rfl⟩
    rw [hem] at CM HBC2
    clear hs hwf hem HBC HOW3 HCF
    go_upto_region 5 with fail
    go_region_with (go_at_call 20; refine CM.out.mono ?_; rintro e6 w6 ⟨rfl, hb6⟩; have HB6 := Lib.hid (HDR.out.trans (hb6.mono HDR.out.size)); have KN6 := Lib.hid (KN.out.bel HB6.out); have KE6 := Lib.hid (KE.out.bel HB6.out); have r0 := KN6.out.cell 0 rfl; have r1 := KE6.out.cell 0 rfl; have y0 := KN6.out.froz 0; have y1 := KE6.out.froz 0; clear hb6)
    all_goals
      obtain ⟨w7, hW7⟩ : ∃ W, (w6.setCell ⟨g, 0, none⟩ (.slice A n cc)).setCell ⟨g + 1, 0, none⟩ (.int .i64 em) = W := ⟨_, rfl⟩
      rw [hW7]
      have HB7 : Hid (Below w.heap.size w w7) := by
        have h := HB3.out.trans (HB6.out.mono HB3.out.size)
        subst hW7
        exact (h.setCell (p := ⟨g, 0, none⟩) (by show _ ≤ g; omega) _).setCell (p := ⟨g + 1, 0, none⟩) (by show _ ≤ g + 1; omega) _
      have HOW7 : Hid (OwnN (g + 2) (.agg #[.slice A n cc]) ln w7) := by
        have h := HOW4.out.bel HB6.out
        subst hW7
        exact (h.set (by omega) _).set (by omega) _
      have KN7 : Hid (Blk g #[.slice A n cc] 24 w7) := by subst hW7; exact (KN6.out.set 0 _ rfl).far (g + 1) 0 _ (by omega)
      have KE7 : Hid (Blk (g + 1) #[.int .i64 em] 27 w7) := by subst hW7; exact (KE6.out.far g 0 _ (by omega)).set 0 _ rfl
      clear hW7 r0 r1 y0 y1 HB6 KN6 KE6
      go_wp2_with fail
      refine leaves_cons (f := 55) (args := #[.pointer (some ⟨g + 1, 0, none⟩), .pointer (some ⟨g, 0, none⟩)]) (by simp) (by simp [go_sem]) ?_
      refine (nfclose (g + 1) g em _ .returning w7 KE7 KN7).mono ?_
      rintro e u' w'' ⟨rfl, rfl, rfl⟩
      by_cases hm : em = 0
      · subst hm
        rw [if_pos rfl]
        exact ⟨_, results_net2 rfl _ _ g (g + 1) _ 0 rfl rfl KN7.out KE7.out, _, by rw [HBC2.out]; rfl, by rw [HBC2.out]; exact HOW7.out.base (by omega), HB7.out⟩
      · rw [if_neg hm]
        have KN5 : Blk g #[.slice none 0 0] 24 (w7.setRow g #[.slice none 0 0]) := setRow_heap _ _ _ _ _ _ KN7.out
        have KE5 : Blk (g + 1) #[.int .i64 em] 27 (w7.setRow g #[.slice none 0 0]) := by
          show _ = _
          rw [setRow_other w7 g (g + 1) _ (by omega)]
          exact KE7.out
        exact ⟨_, results_net2 rfl _ _ g (g + 1) _ em rfl rfl KN5 KE5, _, by rw [HBC2.out, if_pos hm], by rw [HBC2.out, if_pos hm]; exact OwnN.none _ _, below_setRow HB7.out (by omega) _⟩
  · have HBC2 : Hid (bodyT b = ([], c)) := by
      show _ = _
      rw [HBC.out, if_pos hc0]
    have t0 : (c != 0) = true := by simp [hc0]
    have q1 : w3.drew.cell? ⟨g + 1, 0, none⟩ = some (.int .i64 c) := KE.out.cell 0 rfl
    clear HBC HOW3 HCF
    go_upto_region 4 with fail
    go_region
    obtain ⟨w4, hW4⟩ : ∃ W, ((w3.setCell ⟨g, 0, none⟩ (.slice A n cc)).setCell ⟨g + 1, 0, none⟩ (.int .i64 c)).drew = W := ⟨_, rfl⟩
    rw [hW4]
    have HB4 : Hid (Below w.heap.size w w4) := by
      subst hW4
      exact ((HB3.out.setCell (p := ⟨g, 0, none⟩) (by show _ ≤ g; omega) _).setCell (p := ⟨g + 1, 0, none⟩) (by show _ ≤ g + 1; omega) _).drew
    have KN4 : Hid (Blk g #[.slice A n cc] 24 w4) := by subst hW4; exact (KN.out.set 0 _ rfl).far (g + 1) 0 _ (by omega)
    have KE4 : Hid (Blk (g + 1) #[.int .i64 c] 27 w4) := by subst hW4; exact (KE.out.far g 0 _ (by omega)).set 0 _ rfl
    clear hW4 q0 q1 z1 q2 z2 z3 z4 q4
    go_wp2_with fail
    refine leaves_cons (f := 55) (args := #[.pointer (some ⟨g + 1, 0, none⟩), .pointer (some ⟨g, 0, none⟩)]) (by simp) (by simp [go_sem]) ?_
    refine (nfclose (g + 1) g c _ .returning w4 KE4 KN4).mono ?_
    rintro e u' w'' ⟨rfl, rfl, rfl⟩
    rw [if_neg hc0]
    have KN5 : Blk g #[.slice none 0 0] 24 (w4.setRow g #[.slice none 0 0]) := setRow_heap _ _ _ _ _ _ KN4.out
    have KE5 : Blk (g + 1) #[.int .i64 c] 27 (w4.setRow g #[.slice none 0 0]) := by
      show _ = _
      rw [setRow_other w4 g (g + 1) _ (by omega)]
      exact KE4.out
    exact ⟨_, results_net2 rfl _ _ g (g + 1) _ c rfl rfl KN5 KE5, _, by rw [HBC2.out], by rw [HBC2.out]; exact OwnN.none _ _, below_setRow HB4.out (by omega) _⟩
set_option maxHeartbeats 4000000 in
theorem nftake_any (v : Value) (b : List UInt8) (w : World) (hv : IsB w v b) (hbl : (b.length : Int) ≤ 1000000) (ht : Hid (Tab w)) :
    Calls Tryd.prog 15 #[v] w fun e w' => ∃ u, e = .returned (.tuple #[u, .int .i64 (takeNf b).2]) ∧ IsN w' u (takeNf b).1 ∧ Below w.heap.size w w' := by
  obtain ⟨g, hg⟩ : ∃ g, w.heap.size = g := ⟨_, rfl⟩
  have HGG := Lib.hid hg
  have HG0 : Hid (Blk g #[.slice none 0 0] 24 (w.alloc (.cells #[.slice none 0 0] 24))) := by
    subst hg
    exact Blk.new _ _ _
  have HB0 : Hid (Below w.heap.size w (w.alloc (.cells #[.slice none 0 0] 24))) := (Below.refl w.heap.size w).alloc (Nat.le_refl _) _
  have CT := Lib.hid (ftake_any magicN v b _ (by decide) (hv.bel HB0.out) (by omega) (Lib.hid (ht.out.bel HB0.out)))
  have HLF := Lib.hid (takeF_le magicN b)
  have HBL := Lib.hid hbl
  unfold magicN at CT
  clear hv hbl ht
  go_enter Tryd.func15, Tryd.ntmps15
  go_wp2_with fail
  refine CT.out.mono ?_
  rintro e1 w1 ⟨v1, rfl, hv1, hb1⟩
  have HB1 : Hid (Below w.heap.size w w1) := HB0.out.trans (hb1.mono HB0.out.size)
  have HG1 := Lib.hid (HG0.out.bel hb1)
  clear hb1 CT HB0 HG0
  have hfold : takeF 1179206193 b = takeF magicN b := rfl
  rw [hfold] at hv1 ⊢
  clear hfold
  have HE0 : Hid (takeNf b = if (takeF magicN b).2 ≠ 0 then ([], (takeF magicN b).2) else bodyT (takeF magicN b).1) := rfl
  obtain ⟨f, hf⟩ : ∃ f, takeF magicN b = f := ⟨_, rfl⟩
  rw [hf] at hv1 HE0 HLF ⊢
  obtain ⟨q, ef⟩ := f
  simp only at hv1 HE0 HLF ⊢
  have HR1 := HG1.out
  clear hf
  by_cases hef : ef = 0
  · subst hef
    have HE1 : Hid (takeNf b = bodyT q) := by
      show _ = _
      rw [HE0.out]
      simp
    have C := Lib.hid (nfnet_any v1 q w1 hv1 (by have h1 := HLF.out; have h2 := HBL.out; omega))
    clear hv1 HE0 HLF HBL
    go_wp2_with fail
    refine C.out.mono ?_
    rintro e2 w2 ⟨u, rfl, hu, hb2⟩
    have HB2 := Lib.hid (HB1.out.trans (hb2.mono HB1.out.size))
    have HR2 := HG1.out.bel hb2
    have hIN : ∀ cs, IsN (w2.setRow g cs) u (bodyT q).1 := fun cs => (hu.kept (setRow_grown w2 g cs) HG1.out.size).isN
    obtain ⟨A, c, rfl, _, _, _⟩ := hu.isN.slice
    generalize (bodyT q).1.length = n at *
    have HIN := Lib.hid hIN
    clear hb2 C hu hIN
    go_wp2_with (refine wpList_store_row rfl 24 (.tmp 2) (.tmp 17) rfl g #[.slice A n c] rfl rfl 24 #[.slice none 0 0] HR2 rfl rfl (by simp [Value.oneCell']) ?_)
    (try simp only [Exit.inBlock, Exit.then])
    exact bodyPost_ret (results_net rfl _ _ g (.slice A n c) rfl (setRow_heap _ _ _ _ _ _ HR2)) rfl ⟨_, by rw [HE1.out]; rfl, by rw [HE1.out]; exact HIN.out _, below_setRow HB2.out (by rw [HGG.out]; exact Nat.le_refl _) _⟩
  · have HE1 : Hid (takeNf b = ([], ef)) := by
      show _ = _
      rw [HE0.out, if_pos hef]
    have t1 : (ef != 0) = true := by rw [bne_iff_ne]; exact hef
    clear HE0
    go_wp2_with (refine wpList_store_row rfl 24 (.tmp 2) (.tmp 13) rfl g #[.slice none 0 0] rfl rfl 24 #[.slice none 0 0] HR1 rfl rfl (by simp [Value.oneCell']) ?_)
    (try simp only [Exit.inBlock, Exit.then])
    exact bodyPost_ret (results_net rfl _ _ g (.slice none 0 0) rfl (setRow_heap _ _ _ _ _ _ HR1)) rfl ⟨_, by rw [HE1.out]; rfl, by rw [HE1.out]; exact isn_none _, below_setRow HB1.out (by rw [HGG.out]; exact Nat.le_refl _) _⟩
end Go.Proofs.YtohggpaffmcfoaaDoor
