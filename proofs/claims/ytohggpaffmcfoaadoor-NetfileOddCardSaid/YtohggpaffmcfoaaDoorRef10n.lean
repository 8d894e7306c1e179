/- Contract of theseusref10.node: the rules of a node's bytes. -/
import Derived.Test.YtohggpaffmcfoaaDoorMath
import Derived.Test.YtohggpaffmcfoaaDoorOwnR
import Derived.Test.YtohggpaffmcfoaaDoorLow
import Derived.Test.YtohggpaffmcfoaaDoorRef07T
import Derived.Test.YtohggpaffmcfoaaDoorBlk
import Derived.Test.YtohggpaffmcfoaaDoorRulM
import Derived.Laws.CopyOwn
namespace Go.Proofs.YtohggpaffmcfoaaDoor
open Go.RowKit
set_option linter.unusedVariables false
set_option maxRecDepth 100000
set_option linter.unusedSimpArgs false
attribute [local go_sem ↓] sliced_cut

theorem IsB.from_ {w : World} {A : Option Addr} {n c : Nat} {l : List UInt8} (h : IsB w (.slice A n c) l) {k : Nat} (hk : k ≤ n) : IsB w (.slice (cutA A c k 1) (n - k) (c - k)) (l.drop k) := by
  obtain ⟨A', n', c', e, h1, h2, h3, h4⟩ := h
  injection e with e1 e2 e3
  subst e1 e2 e3
  refine ⟨_, _, _, rfl, by omega, by omega, by rw [List.length_drop, h3], ?_⟩
  rw [vals_drop]
  exact h4.cutA (by rw [vals_length, h3]; exact h1)
theorem IsB.len {w : World} {A : Option Addr} {n c : Nat} {l : List UInt8} (h : IsB w (.slice A n c) l) : l.length = n ∧ n ≤ c ∧ c ≤ maxLen := by
  obtain ⟨A', n', c', e, h1, h2, h3, h4⟩ := h
  injection e with e1 e2 e3
  subst e2 e3
  exact ⟨h3, h1, h2⟩
theorem rulesA_stop {acc : List Rl} {n : Nat} {b : List UInt8} (h : b.length < 8) : rulesA acc (n + 1) b = ([], [], 2) := by
  simp only [rulesA, takeR_short h]
  simp
theorem rulesA_step {acc : List Rl} {n : Nat} {b : List UInt8} (h : 8 ≤ b.length) : rulesA acc (n + 1) b = rulesA (acc ++ [ofRul (takeR b).1]) n (b.drop 8) := by
  have e : (takeR b).2 = 0 := by rw [takeR_long h]
  simp only [rulesA, e]
  simp
theorem own_from4 {w : World} {base n : Nat} {e : TypeId} {v : Value} {xs : List Value} (h : w.ownsRow base e 4 v n xs) : ∀ q, v.ownBlock = some q → base ≤ q := by
  intro q hq
  rcases h.2 with ⟨rfl, _⟩ | ⟨g, cap, cur, rfl, hb, _⟩
  · simp [Value.ownBlock] at hq
  · obtain rfl : g = q := by simpa [Value.ownBlock] using hq
    exact hb
theorem rcell_of (x : Rul) : rcells [ofRul x] = [.int .u32 (x.at_ : Int), .int .i64 (x.len : Int), .int .i64 (x.act : Int), .int .i64 (x.nxt : Int)] := rfl
set_option maxHeartbeats 4000000 in
theorem rnode_own (v : Value) (b : List UInt8) (w : World) (hv : IsB w v b) :
    Calls Tryd.prog 34 #[v] w fun e w' => ∃ u, e = .returned (.tuple #[u, .int .i64 (nodeT b).2]) ∧ OwnR 47 w.heap.size u (nodeT b).1 w' ∧ Below w.heap.size w w' := by
  obtain ⟨A, N, c, rfl, hnc, hcm, hl, hA⟩ := hv
  have HV : Hid (IsB w (.slice A N c) b) := ⟨A, N, c, rfl, hnc, hcm, hl, hA⟩
  have CG := Lib.hid (rgtake_any (.slice A N c) b w HV.out)
  have HL := Lib.hid hl
  have nil : ∀ wx, OwnR 47 w.heap.size (.slice none 0 0) [] wx := fun wx => World.ownsRow_nil _ _ _ _
  have HN := Lib.hid nil
  unfold maxLen at hcm
  clear hl hA nil
  go_enter Tryd.func34, Tryd.ntmps34
  rcases taken_grp b with ⟨n, hn, ht, hg1, hg2⟩ | ht | ⟨ht, _⟩
  · have HT : Hid (takeG b = ((n : Int), (gsize n : Int), 0)) := ht
    rw [ht] at CG
    rw [HL.out] at hg1
    obtain ⟨s, hs⟩ : ∃ s, gsize n = s := ⟨_, rfl⟩
    rw [hs] at CG hg1
    have HS := Lib.hid hs
    clear ht hg2 hs
    by_cases hbig : 4096 < n
    · have HE : Hid (nodeT b = ([], 12)) := by
        show _ = _
        unfold nodeT
        rw [HT.out]
        simp only [ne_eq, not_true_eq_false, if_false]
        rw [if_pos (by omega)]
      have t1 : decide ((n : Int) > 4096) = true := decide_eq_true (by omega)
      have t2 : decide (4096 < n) = true := decide_eq_true hbig
      go_wp2_with fail
      refine CG.out.mono ?_
      rintro e1 w1 ⟨rfl, rfl⟩
      go_wp2_with fail
      go_ret2
      exact ⟨_, by rw [HE.out]; rfl, by rw [HE.out]; exact HN.out _, Below.refl _ _⟩
    · have t1 : decide ((n : Int) > 4096) = false := decide_eq_false (by omega)
      have t2 : decide (4096 < n) = false := decide_eq_false hbig
      have hnb : (n : Int) ≤ 4096 := by omega
      obtain ⟨b0, hb0⟩ : ∃ b0, b.drop s = b0 := ⟨_, rfl⟩
      have HE : Hid (nodeT b = if (rulesA [] n b0).2.2 ≠ 0 then ([], (rulesA [] n b0).2.2) else if 0 < (rulesA [] n b0).2.1.length then ([], 4) else ((rulesA [] n b0).1, 0)) := by
        show _ = _
        unfold nodeT
        rw [HT.out]
        simp only [ne_eq, not_true_eq_false, if_false, Int.toNat_natCast]
        rw [if_neg (by omega), HS.out, hb0]
      have HV0 : Hid (IsB w (.slice (cutA A c s 1) (N - s) (c - s)) b0) := by
        rw [← hb0]
        exact HV.out.from_ hg1
      obtain ⟨R, hR⟩ : ∃ R, rulesA [] n b0 = R := ⟨_, rfl⟩
      rw [hR] at HE
      have HR0 : Hid (rulesA [] (n - 0) b0 = R) := hR
      have hsc : s ≤ c := by omega
      have hsi : (s : Int) ≤ (N : Int) := by omega
      have hsci : (s : Int) ≤ (c : Int) := by omega
      have HRI := Lib.hid rule_info
      obtain ⟨g, hg⟩ : ∃ g, w.heap.size = g := ⟨_, rfl⟩
      have HGG := Lib.hid hg
      have HO0 : Hid ((w.alloc (.cells #[] 47)).ownsRow g 47 4 (.slice (some ⟨g, 0, none⟩) 0 0) 0 (rcells [])) := by
        subst hg
        exact World.ownsRow_lit (e := 47) (size := 4) w #[] 0 (Nat.le_refl _) (by decide) rfl
      have HB0 : Hid (Below g w (w.alloc (.cells #[] 47))) := by
        subst hg
        exact (Below.refl w.heap.size w).alloc (Nat.le_refl _) _
      clear hb0 hR hbig
      go_wp2_with fail
      refine CG.out.mono ?_
      rintro e1 w1 ⟨rfl, rfl⟩
      clear CG
      go_wp2_with fail
      have HV1 := HV0
      clear hg t1 t2 HV0 HV
      generalize w.alloc (.cells #[] 47) = w1 at *
      go_loopw [0, 7, 8] (fun x o i wr => ∃ k : Nat, k ≤ n ∧ i = .int .i64 k ∧ ∃ (acc : List Rl) (bi : List UInt8), Hid (rulesA acc (n - k) bi = R) ∧ Hid (wr.ownsRow g 47 4 o k (rcells acc)) ∧ Hid (IsB w x bi) ∧ Hid (Below g w wr)) (fun _ _ i _ => n - (intOf i).toNat)
      case atStart => exact ⟨0, by omega, rfl, [], b0, HR0, HO0, HV1, HB0⟩
      case round =>
        clear HR0 HO0 HV1 HB0
        obtain ⟨k, hk, rfl, acc, bi, HR, HO, HV, HB⟩ := hrel
        obtain ⟨Ai, ni, ci, rfl, hnci, hcmi, hli, hAi⟩ := HV.out
        have HLI := Lib.hid hli
        unfold maxLen at hcmi
        clear hAi hli
        by_cases hlt : k < n
        · have hki : (k : Int) < (n : Int) := by omega
          have CR := Lib.hid (rrultake_any (.slice Ai ni ci) bi wr (HV.out.bel (by rw [HGG.out]; exact HB.out)))
          have hnk : n - k = (n - (k + 1)) + 1 := by omega
          by_cases h8 : ni < 8
          · have hR2 : R = ([], [], 2) := by
              have h := HR.out
              rw [hnk, rulesA_stop (by rw [HLI.out]; exact h8)] at h
              exact h.symm
            have HE2 : Hid (nodeT b = ([], 2)) := by
              show _ = _
              rw [HE.out, hR2]
              simp
            rw [takeR_short (by rw [HLI.out]; exact h8)] at CR
            clear HE HR hR2 hnk
            go_wp2_with fail
            refine CR.out.mono ?_
            rintro e2 w2 ⟨rfl, hb2⟩
            have HB2 := Lib.hid (HB.out.trans (hb2.mono (by have h1 := HB.out.size; have h2 := HGG.out; omega)))
            clear hb2 CR
            go_wp2_with fail
            go_ret2
            exact ⟨_, by rw [HE2.out]; rfl, by rw [HE2.out]; exact HN.out _, by rw [HGG.out]; exact HB2.out.alloc (by have h1 := HB2.out.size; have h2 := HGG.out; omega) _⟩
          · have hli8 : 8 ≤ bi.length := by rw [HLI.out]; omega
            have HR2 : Hid (rulesA (acc ++ [ofRul (takeR bi).1]) (n - (k + 1)) (bi.drop 8) = R) := by
              have h := HR.out
              rw [hnk, rulesA_step hli8] at h
              exact h
            rw [takeR_long hli8] at CR
            rw [takeR_long hli8] at HR2
            generalize val (bi.take 4) = x0 at *
            generalize val ((bi.drop 4).take 1) = x1 at *
            generalize val ((bi.drop 5).take 1) = x2 at *
            generalize val ((bi.drop 6).take 2) = x3 at *
            have hn8 : (8 : Int) ≤ (ni : Int) := by omega
            have hc8 : (8 : Int) ≤ (ci : Int) := by omega
            have hc8n : 8 ≤ ci := by omega
            clear HR hnk hli8
            go_upto_region 11 with fail
            go_wp2_with fail
            refine CR.out.mono ?_
            rintro e2 w2 ⟨rfl, hb2⟩
            have HB2 := Lib.hid (HB.out.trans (hb2.mono (by have h1 := HB.out.size; have h2 := HGG.out; omega)))
            have HO2 := Lib.hid (own_bel HO.out hb2)
            obtain ⟨G, hG⟩ : ∃ G, w2.heap.size = G := ⟨_, rfl⟩
            have HX : Hid (Blk G #[.int .u32 (x0 : Int), .int .i64 (x1 : Int), .int .i64 (x2 : Int), .int .i64 (x3 : Int)] 47 (w2.alloc (.cells #[.int .u32 (x0 : Int), .int .i64 (x1 : Int), .int .i64 (x2 : Int), .int .i64 (x3 : Int)] 47))) := by
              subst hG
              exact Blk.new _ _ _
            have hbx : Below w2.heap.size w2 (w2.alloc (.cells #[.int .u32 (x0 : Int), .int .i64 (x1 : Int), .int .i64 (x2 : Int), .int .i64 (x3 : Int)] 47)) := (Below.refl _ _).alloc (Nat.le_refl _) _
            have HB3 := Lib.hid (HB2.out.trans (hbx.mono (by have h1 := HB2.out.size; have h2 := HGG.out; omega)))
            have HO3 := Lib.hid (own_bel HO2.out hbx)
            clear hb2 CR HO HB hbx HB2 HO2
            go_upto_region 14 with fail
            clear hG
            generalize w2.alloc (.cells #[.int .u32 (x0 : Int), .int .i64 (x1 : Int), .int .i64 (x2 : Int), .int .i64 (x3 : Int)] 47) = w3 at *
            have f0 := HX.out.cell 0 rfl
            have f1 := HX.out.cell 1 rfl
            have f2 := HX.out.cell 2 rfl
            have f3 := HX.out.cell 3 rfl
            have HNW : Hid (Has (w3.alloc (.cells #[.int .u32 (x0 : Int), .int .i64 (x1 : Int), .int .i64 (x2 : Int), .int .i64 (x3 : Int)] 47)) (some ⟨w3.heap.size, 0, none⟩) (rcells [ofRul ⟨x0, x1, x2, x3⟩])) := Has.new w3 (rcells [ofRul ⟨x0, x1, x2, x3⟩]) 47 (0, 0)
            have HOA := Lib.hid (own_bel HO3.out ((Below.refl _ _).alloc (Nat.le_refl _) (.cells #[.int .u32 (x0 : Int), .int .i64 (x1 : Int), .int .i64 (x2 : Int), .int .i64 (x3 : Int)] 47)))
            have HBA : Hid (Below g w (w3.alloc (.cells #[.int .u32 (x0 : Int), .int .i64 (x1 : Int), .int .i64 (x2 : Int), .int .i64 (x3 : Int)] 47))) := HB3.out.alloc (by have h1 := HB3.out.size; have h2 := HGG.out; omega) _
            have hga : g ≤ (w3.alloc (.cells #[.int .u32 (x0 : Int), .int .i64 (x1 : Int), .int .i64 (x2 : Int), .int .i64 (x3 : Int)] 47)).heap.size := by have h1 := HBA.out.size; have h2 := HGG.out; omega
            obtain ⟨i0, hi0, hz0, hz1, hz2⟩ := info_parts HRI.out
            clear HO3 HB3 HX
            go_wp2_with (at_builtin; refine wpList_append4 _ rfl (.tmp 39) (.tmp 41) _ rfl g 47 i0 (.agg #[.int .u32 0, .int .i64 0, .int .i64 0, .int .i64 0]) 32 Tryd.underlying42 hi0 hz0 hz1 hz2 rfl u7 k _ rfl HOA.out _ 1 _ (rcells [ofRul ⟨x0, x1, x2, x3⟩]) rfl rfl HNW.out (rcells_one _) (by unfold maxLen; omega) (by omega) hga ?_; intro v4 w4 hown4 hgrow4 _; have HO4 := Lib.hid hown4; have HG4 := Lib.hid hgrow4; clear hown4 hgrow4)
            have HB4 := Lib.hid (HBA.out.grown HG4.out hga (own_from4 HOA.out))
            have HO5 : Hid (w4.ownsRow g 47 4 v4 (k + 1) (rcells (acc ++ [ofRul ⟨x0, x1, x2, x3⟩]))) := by
              rw [rcells_append]
              exact HO4.out
            have HV5 := Lib.hid (HV.out.from_ (k := 8) (by omega))
            clear HO4 HG4 HBA HOA HNW HV
            go_roundw
            case rel => exact ⟨k + 1, by omega, by go_num, _, _, HR2, HO5, HV5, HB4⟩
            case measure => simp [intOf]; omega
        · obtain rfl : k = n := by omega
          have hR2 : R = (acc, bi, 0) := by
            have h := HR.out
            rw [Nat.sub_self] at h
            exact h.symm
          have HIR : Hid (OwnR 47 w.heap.size u7 acc wr) := OwnR.mk HO.out (by rw [HGG.out]; exact Nat.le_refl _)
          by_cases h0 : 0 < ni
          · have HE2 : Hid (nodeT b = ([], 4)) := by
              show _ = _
              rw [HE.out, hR2]
              simp only [ne_eq, not_true_eq_false, if_false]
              rw [if_pos (by rw [HLI.out]; exact h0)]
            have t3 : decide ((ni : Int) > 0) = true := decide_eq_true (by omega)
            have t4 : decide (0 < ni) = true := decide_eq_true h0
            clear HE hR2 HR
            go_wp2_with fail
            go_ret2
            exact ⟨_, by rw [HE2.out]; rfl, by rw [HE2.out]; exact HN.out _, by rw [HGG.out]; exact HB.out⟩
          · have HE2 : Hid (nodeT b = (acc, 0)) := by
              show _ = _
              rw [HE.out, hR2]
              simp only [ne_eq, not_true_eq_false, if_false]
              rw [if_neg (by rw [HLI.out]; exact h0)]
            have t3 : decide ((ni : Int) > 0) = false := decide_eq_false (by omega)
            have t4 : decide (0 < ni) = false := decide_eq_false h0
            clear HE hR2 HR
            go_wp2_with fail
            go_ret2
            exact ⟨_, by rw [HE2.out]; rfl, by rw [HE2.out]; exact HIR.out, by rw [HGG.out]; exact HB.out⟩
  · have HE : Hid (nodeT b = ([], 3)) := by
      show _ = _
      unfold nodeT
      rw [ht]
      simp
    rw [ht] at CG
    clear ht
    go_wp2_with fail
    refine CG.out.mono ?_
    rintro e1 w1 ⟨rfl, rfl⟩
    go_wp2_with fail
    go_ret2
    exact ⟨_, by rw [HE.out]; rfl, by rw [HE.out]; exact HN.out _, Below.refl _ _⟩
  · have HE : Hid (nodeT b = ([], 2)) := by
      show _ = _
      unfold nodeT
      rw [ht]
      simp
    rw [ht] at CG
    clear ht
    go_wp2_with fail
    refine CG.out.mono ?_
    rintro e1 w1 ⟨rfl, rfl⟩
    go_wp2_with fail
    go_ret2
    exact ⟨_, by rw [HE.out]; rfl, by rw [HE.out]; exact HN.out _, Below.refl _ _⟩
theorem rnode_any (v : Value) (b : List UInt8) (w : World) (hv : IsB w v b) :
    Calls Tryd.prog 34 #[v] w fun e w' => ∃ u, e = .returned (.tuple #[u, .int .i64 (nodeT b).2]) ∧ IsR w' u (nodeT b).1 ∧ Below w.heap.size w w' :=
  (rnode_own v b w hv).mono fun e w' ⟨u, h1, h2, h3⟩ => ⟨u, h1, h2.isr, h3⟩
end Go.Proofs.YtohggpaffmcfoaaDoor
