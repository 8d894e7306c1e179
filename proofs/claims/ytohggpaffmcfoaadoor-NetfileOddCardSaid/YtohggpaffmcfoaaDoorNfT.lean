/- Contracts of netfile's Take: a rule, a node's rules, a node, all nodes of bytes. -/
import Derived.Test.YtohggpaffmcfoaaDoorNfP
import Derived.Test.YtohggpaffmcfoaaDoorRef10n
import Derived.Test.YtohggpaffmcfoaaDoorRef10t
import Derived.Test.YtohggpaffmcfoaaDoorRulT
import Derived.Test.YtohggpaffmcfoaaDoorMid
import Derived.Test.YtohggpaffmcfoaaDoorNetOwn
import Derived.Laws.ResultCell
import Derived.Laws.Rows
import Derived.Laws.Tables
namespace Go.Proofs.YtohggpaffmcfoaaDoor
open Go.RowKit
set_option linter.unusedVariables false
set_option maxRecDepth 100000
set_option linter.unusedSimpArgs false
attribute [local go_sem ↓] sliced_cut

theorem results_cell_tmp2 {fn : Func} {p u x : Tmp} {ty : TypeId} (h : fn.results = #[.cell p ty, .tmp u, .tmp x]) (tmps : Array Value) (P : Program) (w : World) :
    (results fn tmps).run P w = ((asAddr (tmps.getD p undef)).run P w).andThen fun a w₁ => ((loadVar ty a).run P w₁).andThen fun v w₂ => .ok (.tuple #[v, tmps.getD u undef, tmps.getD x undef]) w₂ := by
  simp only [results, h]
  simp [Sem.run_bind, Result.andThen]
/-- a rule in its block, bytes and a number: three results -/
theorem results_rule2 {fn : Func} {p u x : Tmp} (h : fn.results = #[.cell p 47, .tmp u, .tmp x]) (tmps : Array Value) (w : World) (g : Nat) (a l c n : Int)
    (hp : tmps.getD p undef = .pointer (some ⟨g, 0, none⟩)) (hg : Blk g (rcs a l c n) 47 w) :
    (results fn tmps).run Tryd.prog w = .ok (.tuple #[.agg (rcs a l c n), tmps.getD u undef, tmps.getD x undef]) w := by
  have hl := run_loadVar_row (P := Tryd.prog) w g 47 47 (rcs a l c n) (0, 0) _ hg Tryd.underlying47 rfl (by show _ = some 4; kernel_rfl)
  have ha : (asAddr (tmps.getD p undef)).run Tryd.prog w = .ok ⟨g, 0, none⟩ w := by rw [hp]; rfl
  rw [results_cell_tmp2 h, ha]
  show ((loadVar 47 ⟨g, 0, none⟩).run Tryd.prog w).andThen _ = _
  rw [hl]
  rfl
/-- the rule that bytes begin with -/
theorem nftr_ok (A : Option Addr) (n c : Nat) (b : List UInt8) (w : World) (hv : IsB w (.slice A n c) b) (h8 : 8 ≤ n) :
    Calls Tryd.prog 79 #[.slice A n c] w fun e w' => e = .returned (.tuple #[.agg #[.int .u32 ((takeR b).1.at_ : Int), .int .i64 ((takeR b).1.len : Int), .int .i64 ((takeR b).1.act : Int), .int .i64 ((takeR b).1.nxt : Int)], .slice (cutA A c 8 1) (n - 8) (c - 8), .int .i64 0]) ∧ Below w.heap.size w w' := by
  obtain ⟨g, hg⟩ : ∃ g, w.heap.size = g := ⟨_, rfl⟩
  have HG := Lib.hid hg
  have hb0 : Below w.heap.size w (w.alloc (.cells (rcs 0 0 0 0) 47)) := (Below.refl _ _).alloc (Nat.le_refl _) _
  have HB0 := Lib.hid hb0
  have HK0 : Hid (Blk g (rcs 0 0 0 0) 47 (w.alloc (.cells (rcs 0 0 0 0) 47))) := by subst hg; exact Blk.new _ _ _
  obtain ⟨hl, hnc, hcm⟩ := hv.len
  have e0 : (takeR b).2 = 0 := by rw [takeR_long (by omega)]
  have C := Lib.hid (rultake_any (.slice A n c) b _ (hv.bel hb0))
  rw [e0] at C
  unfold maxLen at hcm
  have hn8 : (8 : Int) ≤ (n : Int) := by omega
  have hc8 : (8 : Int) ≤ (c : Int) := by omega
  have hc8n : 8 ≤ c := by omega
  clear hv hb0 e0 hg hl
  generalize (takeR b).1 = r at *
  obtain ⟨x0, x1, x2, x3⟩ := r
  simp only at C ⊢
  go_enter Tryd.func79, Tryd.ntmps79
  go_wp2_with fail
  refine C.out.mono ?_
  rintro e1 w1 ⟨rfl, hb1⟩
  rw [HG.out]
  have HB1 := Lib.hid (HB0.out.trans (hb1.mono HB0.out.size))
  have HK1 := Lib.hid (HK0.out.bel hb1)
  clear hb1 C HB0 HK0
  have HR1 := HK1.out
  go_wp2_with (refine wpList_store_row rfl 47 (.tmp 2) (.tmp 8) rfl g #[.int .u32 (x0 : Int), .int .i64 (x1 : Int), .int .i64 (x2 : Int), .int .i64 (x3 : Int)] rfl rfl 47 (rcs 0 0 0 0) HR1 rfl rfl (by simp [Value.oneCell']) ?_)
  have HK2 : Hid (Blk g (rcs x0 x1 x2 x3) 47 (w1.setRow g #[.int .u32 (x0 : Int), .int .i64 (x1 : Int), .int .i64 (x2 : Int), .int .i64 (x3 : Int)])) := setRow_heap _ _ _ _ _ _ HR1
  have HB2 : Hid (Below w.heap.size w (w1.setRow g #[.int .u32 (x0 : Int), .int .i64 (x1 : Int), .int .i64 (x2 : Int), .int .i64 (x3 : Int)])) := below_setRow HB1.out (by rw [HG.out]; exact Nat.le_refl _) _
  clear HR1 HK1 HB1
  generalize w1.setRow g #[.int .u32 (x0 : Int), .int .i64 (x1 : Int), .int .i64 (x2 : Int), .int .i64 (x3 : Int)] = w2 at *
  have HK3 : Blk g (rcs x0 x1 x2 x3) 47 w2.drew := HK2.out
  have q0 : w2.drew.cell? ⟨g, 0, none⟩ = some (.int .u32 (x0 : Int)) := HK3.cell 0 rfl
  have q1 : w2.drew.cell? ⟨g, 1, none⟩ = some (.int .i64 (x1 : Int)) := HK3.cell 1 rfl
  have q2 : w2.drew.cell? ⟨g, 2, none⟩ = some (.int .i64 (x2 : Int)) := HK3.cell 2 rfl
  have q3 : w2.drew.cell? ⟨g, 3, none⟩ = some (.int .i64 (x3 : Int)) := HK3.cell 3 rfl
  have z0 := HK3.froz 0
  have z1 := HK3.froz 1
  have z2 := HK3.froz 2
  have z3 := HK3.froz 3
  have y0 := HK2.out.froz 0
  have y1 := HK2.out.froz 1
  have y2 := HK2.out.froz 2
  have y3 := HK2.out.froz 3
  have p0 : w2.cell? ⟨g, 0, none⟩ = some (.int .u32 (x0 : Int)) := HK2.out.cell 0 rfl
  have p1 : w2.cell? ⟨g, 1, none⟩ = some (.int .i64 (x1 : Int)) := HK2.out.cell 1 rfl
  have p2 : w2.cell? ⟨g, 2, none⟩ = some (.int .i64 (x2 : Int)) := HK2.out.cell 2 rfl
  have p3 : w2.cell? ⟨g, 3, none⟩ = some (.int .i64 (x3 : Int)) := HK2.out.cell 3 rfl
  go_region
  obtain ⟨w3, hW⟩ : ∃ W, ((((w2.setCell ⟨g, 0, none⟩ (.int .u32 (x0 : Int))).setCell ⟨g, 1, none⟩ (.int .i64 (x1 : Int))).setCell ⟨g, 2, none⟩ (.int .i64 (x2 : Int))).setCell ⟨g, 3, none⟩ (.int .i64 (x3 : Int))).drew = W := ⟨_, rfl⟩
  rw [hW]
  have HK4 : Blk g (rcs x0 x1 x2 x3) 47 w3 := by
    subst hW
    have h0 : Blk g (rcs x0 x1 x2 x3) 47 (w2.setCell ⟨g, 0, none⟩ (.int .u32 (x0 : Int))) := HK2.out.set 0 _ rfl
    have h1 : Blk g (rcs x0 x1 x2 x3) 47 _ := h0.set 1 (.int .i64 (x1 : Int)) rfl
    have h2 : Blk g (rcs x0 x1 x2 x3) 47 _ := h1.set 2 (.int .i64 (x2 : Int)) rfl
    have h3 : Blk g (rcs x0 x1 x2 x3) 47 _ := h2.set 3 (.int .i64 (x3 : Int)) rfl
    exact h3
  have HB4 : Hid (Below w.heap.size w w3) := by
    have hle : w.heap.size ≤ g := by rw [HG.out]; exact Nat.le_refl _
    subst hW
    exact ((((HB2.out.setCell (p := ⟨g, 0, none⟩) hle _).setCell (p := ⟨g, 1, none⟩) hle _).setCell (p := ⟨g, 2, none⟩) hle _).setCell (p := ⟨g, 3, none⟩) hle _).drew
  clear hW
  go_wp2_with fail
  (try simp only [Exit.inBlock, Exit.then])
  exact bodyPost_ret (results_rule2 rfl _ _ g x0 x1 x2 x3 rfl HK4) rfl ⟨rfl, HB4.out⟩
theorem nftr_no (A : Option Addr) (n c : Nat) (b : List UInt8) (w : World) (hv : IsB w (.slice A n c) b) (h8 : n < 8) :
    Calls Tryd.prog 79 #[.slice A n c] w fun e w' => e = .returned (.tuple #[.agg #[.int .u32 0, .int .i64 0, .int .i64 0, .int .i64 0], .slice none 0 0, .int .i64 2]) ∧ Below w.heap.size w w' := by
  obtain ⟨g, hg⟩ : ∃ g, w.heap.size = g := ⟨_, rfl⟩
  have HG := Lib.hid hg
  have hb0 : Below w.heap.size w (w.alloc (.cells (rcs 0 0 0 0) 47)) := (Below.refl _ _).alloc (Nat.le_refl _) _
  have HB0 := Lib.hid hb0
  have HK0 : Hid (Blk g (rcs 0 0 0 0) 47 (w.alloc (.cells (rcs 0 0 0 0) 47))) := by subst hg; exact Blk.new _ _ _
  obtain ⟨hl, hnc, hcm⟩ := hv.len
  have e0 : (takeR b).2 = 2 := by rw [takeR_short (by omega)]
  have C := Lib.hid (rultake_any (.slice A n c) b _ (hv.bel hb0))
  rw [e0] at C
  clear hv hb0 e0 hg hl
  generalize (takeR b).1 = r at *
  obtain ⟨x0, x1, x2, x3⟩ := r
  simp only at C ⊢
  go_enter Tryd.func79, Tryd.ntmps79
  go_wp2_with fail
  refine C.out.mono ?_
  rintro e1 w1 ⟨rfl, hb1⟩
  rw [HG.out]
  have HB1 := Lib.hid (HB0.out.trans (hb1.mono HB0.out.size))
  have HK1 := Lib.hid (HK0.out.bel hb1)
  clear hb1 C HB0 HK0
  have HR1 := HK1.out
  have HR2 : Blk g (rcs x0 x1 x2 x3) 47 (w1.setRow g #[.int .u32 (x0 : Int), .int .i64 (x1 : Int), .int .i64 (x2 : Int), .int .i64 (x3 : Int)]) := setRow_heap _ _ _ _ _ _ HR1
  have HB2 : Hid (Below w.heap.size w (w1.setRow g #[.int .u32 (x0 : Int), .int .i64 (x1 : Int), .int .i64 (x2 : Int), .int .i64 (x3 : Int)])) := below_setRow HB1.out (by rw [HG.out]; exact Nat.le_refl _) _
  go_wp2_with (first
    | (refine wpList_store_row rfl 47 (.tmp 2) (.tmp 8) rfl g #[.int .u32 (x0 : Int), .int .i64 (x1 : Int), .int .i64 (x2 : Int), .int .i64 (x3 : Int)] rfl rfl 47 (rcs 0 0 0 0) HR1 rfl rfl (by simp [Value.oneCell']) ?_)
    | (refine wpList_store_row rfl 47 (.tmp 2) (.tmp 12) rfl g (rcs 0 0 0 0) rfl rfl 47 (rcs x0 x1 x2 x3) HR2 rfl rfl (by simp [rcs, Value.oneCell']) ?_))
  (try simp only [Exit.inBlock, Exit.then])
  exact bodyPost_ret (results_rule2 rfl _ _ g 0 0 0 0 rfl (setRow_heap _ _ _ _ _ _ HR2)) rfl ⟨rfl, below_setRow HB2.out (by rw [HG.out]; exact Nat.le_refl _) _⟩
set_option maxHeartbeats 4000000 in
/-- the rules of a node's bytes; with an error some -/
theorem nfrt_own (v : Value) (b : List UInt8) (w : World) (hv : IsB w v b) :
    Calls Tryd.prog 78 #[v, .int .i64 4096, .func (.func 79) #[] #[]] w fun e w' => ∃ u lst, e = .returned (.tuple #[u, .int .i64 (nodeT b).2]) ∧ OwnR 47 w.heap.size u lst w' ∧ ((nodeT b).2 = 0 → lst = (nodeT b).1) ∧ Below w.heap.size w w' := by
  obtain ⟨A, N, c, rfl, hnc, hcm, hl, hA⟩ := hv
  have HV : Hid (IsB w (.slice A N c) b) := ⟨A, N, c, rfl, hnc, hcm, hl, hA⟩
  have CG := Lib.hid (gtake_any (.slice A N c) b w HV.out)
  have HL := Lib.hid hl
  have nil : ∀ wx, OwnR 47 w.heap.size (.slice none 0 0) [] wx := fun wx => World.ownsRow_nil _ _ _ _
  have HN := Lib.hid nil
  unfold maxLen at hcm
  clear hl hA nil
  go_enter Tryd.func78, Tryd.ntmps78
  rcases taken_grp b with ⟨n, hn, ht, hg1, hg2⟩ | ht | ⟨ht, _⟩
  · have HT : Hid (takeG b = ((n : Int), (gsize n : Int), 0)) := ht
    rw [ht] at CG
    rw [HL.out] at hg1
    obtain ⟨s, hs⟩ : ∃ s, gsize n = s := ⟨_, rfl⟩
    rw [hs] at CG hg1
    have HS := Lib.hid hs
    clear ht hg2 hs
    by_cases hbig : 4096 < n
    · have HE : Hid (nodeT b = ([], 12)) := by
        show _ = _
        unfold nodeT
        rw [HT.out]
        simp only [ne_eq, not_true_eq_false, if_false]
        rw [if_pos (by omega)]
      have t1 : decide ((n : Int) > 4096) = true := decide_eq_true (by omega)
      have t2 : decide (4096 < n) = true := decide_eq_true hbig
      go_wp2_with fail
      refine CG.out.mono ?_
      rintro e1 w1 ⟨rfl, rfl⟩
      go_wp2_with fail
      go_ret2
      exact ⟨_, [], by rw [HE.out]; rfl, HN.out _, fun _ => by rw [HE.out], Below.refl _ _⟩
    · have t1 : decide ((n : Int) > 4096) = false := decide_eq_false (by omega)
      have t2 : decide (4096 < n) = false := decide_eq_false hbig
      have hnb : (n : Int) ≤ 4096 := by omega
      obtain ⟨b0, hb0⟩ : ∃ b0, b.drop s = b0 := ⟨_, rfl⟩
      have HE : Hid (nodeT b = if (rulesA [] n b0).2.2 ≠ 0 then ([], (rulesA [] n b0).2.2) else if 0 < (rulesA [] n b0).2.1.length then ([], 4) else ((rulesA [] n b0).1, 0)) := by
        show _ = _
        unfold nodeT
        rw [HT.out]
        simp only [ne_eq, not_true_eq_false, if_false, Int.toNat_natCast]
        rw [if_neg (by omega), HS.out, hb0]
      have HV0 : Hid (IsB w (.slice (cutA A c s 1) (N - s) (c - s)) b0) := by
        rw [← hb0]
        exact HV.out.from_ hg1
      obtain ⟨R, hR⟩ : ∃ R, rulesA [] n b0 = R := ⟨_, rfl⟩
      rw [hR] at HE
      have HR0 : Hid (rulesA [] (n - 0) b0 = R) := hR
      have hsc : s ≤ c := by omega
      have hsi : (s : Int) ≤ (N : Int) := by omega
      have hsci : (s : Int) ≤ (c : Int) := by omega
      have HRI := Lib.hid rule_info
      obtain ⟨g, hg⟩ : ∃ g, w.heap.size = g := ⟨_, rfl⟩
      have HGG := Lib.hid hg
      have HO0 : Hid (w.ownsRow g 47 4 (.slice none 0 0) 0 (rcells [])) := World.ownsRow_nil _ _ _ _
      have HB0 : Hid (Below g w w) := Below.refl _ _
      clear hb0 hR hbig
      go_wp2_with fail
      refine CG.out.mono ?_
      rintro e1 w1 ⟨rfl, rfl⟩
      clear CG
      go_wp2_with fail
      have HV1 := HV0
      clear hg t1 t2 HV0 HV
      go_loopw [0, 6, 29] (fun x o i wr => ∃ k : Nat, k ≤ n ∧ i = .int .i64 k ∧ ∃ (acc : List Rl) (bi : List UInt8), Hid (rulesA acc (n - k) bi = R) ∧ Hid (wr.ownsRow g 47 4 o k (rcells acc)) ∧ Hid (IsB w x bi) ∧ Hid (Below g w wr)) (fun _ _ i _ => n - (intOf i).toNat)
      case atStart => exact ⟨0, by omega, rfl, [], b0, HR0, HO0, HV1, HB0⟩
      case round =>
        clear HR0 HO0 HV1 HB0
        obtain ⟨k, hk, rfl, acc, bi, HR, HO, HV, HB⟩ := hrel
        obtain ⟨Ai, ni, ci, rfl, hnci, hcmi, hli, hAi⟩ := HV.out
        have HLI := Lib.hid hli
        unfold maxLen at hcmi
        clear hAi hli
        by_cases hlt : k < n
        · have hki : (k : Int) < (n : Int) := by omega
          have hnk : n - k = (n - (k + 1)) + 1 := by omega
          by_cases h8 : ni < 8
          · have CR := Lib.hid (nftr_no Ai ni ci bi wr (HV.out.bel (by rw [HGG.out]; exact HB.out)) h8)
            have hR2 : R = ([], [], 2) := by
              have h := HR.out
              rw [hnk, rulesA_stop (by rw [HLI.out]; exact h8)] at h
              exact h.symm
            have HE2 : Hid (nodeT b = ([], 2)) := by
              show _ = _
              rw [HE.out, hR2]
              simp
            clear HE HR hR2 hnk
            go_wp2_with fail
            refine CR.out.mono ?_
            rintro e2 w2 ⟨rfl, hb2⟩
            have HB2 := Lib.hid (HB.out.trans (hb2.mono (by have h1 := HB.out.size; have h2 := HGG.out; omega)))
            have HO2 := Lib.hid (own_bel HO.out hb2)
            clear hb2 CR
            go_wp2_with fail
            go_ret2
            have hbx : Below w2.heap.size w2 (w2.alloc (.cells #[.int .u32 0, .int .i64 0, .int .i64 0, .int .i64 0] 47)) := (Below.refl _ _).alloc (Nat.le_refl _) _
            exact ⟨_, acc, by rw [HE2.out]; rfl, OwnR.mk (own_bel HO2.out hbx) (by rw [HGG.out]; exact Nat.le_refl _), fun h => (by rw [HE2.out] at h; cases h), by rw [HGG.out]; exact HB2.out.trans (hbx.mono (by have h1 := HB2.out.size; have h2 := HGG.out; omega))⟩
          · have hli8 : 8 ≤ bi.length := by rw [HLI.out]; omega
            have CR := Lib.hid (nftr_ok Ai ni ci bi wr (HV.out.bel (by rw [HGG.out]; exact HB.out)) (by omega))
            have HR2 : Hid (rulesA (acc ++ [ofRul (takeR bi).1]) (n - (k + 1)) (bi.drop 8) = R) := by
              have h := HR.out
              rw [hnk, rulesA_step hli8] at h
              exact h
            generalize (takeR bi).1 = r at *
            obtain ⟨x0, x1, x2, x3⟩ := r
            simp only at CR
            have hn8 : (8 : Int) ≤ (ni : Int) := by omega
            have hc8 : (8 : Int) ≤ (ci : Int) := by omega
            have hc8n : 8 ≤ ci := by omega
            clear HR hnk hli8
            go_wp2_with fail
            refine CR.out.mono ?_
            rintro e2 w2 ⟨rfl, hb2⟩
            have HB2 := Lib.hid (HB.out.trans (hb2.mono (by have h1 := HB.out.size; have h2 := HGG.out; omega)))
            have HO2 := Lib.hid (own_bel HO.out hb2)
            obtain ⟨G, hG⟩ : ∃ G, w2.heap.size = G := ⟨_, rfl⟩
            have HX : Hid (Blk G #[.int .u32 (x0 : Int), .int .i64 (x1 : Int), .int .i64 (x2 : Int), .int .i64 (x3 : Int)] 47 (w2.alloc (.cells #[.int .u32 (x0 : Int), .int .i64 (x1 : Int), .int .i64 (x2 : Int), .int .i64 (x3 : Int)] 47))) := by
              subst hG
              exact Blk.new _ _ _
            have hbx : Below w2.heap.size w2 (w2.alloc (.cells #[.int .u32 (x0 : Int), .int .i64 (x1 : Int), .int .i64 (x2 : Int), .int .i64 (x3 : Int)] 47)) := (Below.refl _ _).alloc (Nat.le_refl _) _
            have HB3 := Lib.hid (HB2.out.trans (hbx.mono (by have h1 := HB2.out.size; have h2 := HGG.out; omega)))
            have HO3 := Lib.hid (own_bel HO2.out hbx)
            clear hb2 CR HO HB hbx HB2 HO2
            go_upto_region 12 with fail
            clear hG
            generalize w2.alloc (.cells #[.int .u32 (x0 : Int), .int .i64 (x1 : Int), .int .i64 (x2 : Int), .int .i64 (x3 : Int)] 47) = w3 at *
            have f0 := HX.out.cell 0 rfl
            have f1 := HX.out.cell 1 rfl
            have f2 := HX.out.cell 2 rfl
            have f3 := HX.out.cell 3 rfl
            have hba : Below w3.heap.size w3 (w3.alloc (.cells #[.int .u32 (x0 : Int), .int .i64 (x1 : Int), .int .i64 (x2 : Int), .int .i64 (x3 : Int)] 47)) := (Below.refl _ _).alloc (Nat.le_refl _) _
            have HNW : Hid (Has (w3.alloc (.cells #[.int .u32 (x0 : Int), .int .i64 (x1 : Int), .int .i64 (x2 : Int), .int .i64 (x3 : Int)] 47)) (some ⟨w3.heap.size, 0, none⟩) (rcells [ofRul ⟨x0, x1, x2, x3⟩])) := Has.new w3 (rcells [ofRul ⟨x0, x1, x2, x3⟩]) 47 (0, 0)
            have HOA := Lib.hid (own_bel HO3.out hba)
            have HBA : Hid (Below g w (w3.alloc (.cells #[.int .u32 (x0 : Int), .int .i64 (x1 : Int), .int .i64 (x2 : Int), .int .i64 (x3 : Int)] 47))) := HB3.out.alloc (by have h1 := HB3.out.size; have h2 := HGG.out; omega) _
            have hga : g ≤ (w3.alloc (.cells #[.int .u32 (x0 : Int), .int .i64 (x1 : Int), .int .i64 (x2 : Int), .int .i64 (x3 : Int)] 47)).heap.size := by have h1 := HBA.out.size; have h2 := HGG.out; omega
            obtain ⟨i0, hi0, hz0, hz1, hz2⟩ := info_parts HRI.out
            clear HO3 HB3 HX hba
            go_wp2_with (at_builtin; refine wpList_append4 _ rfl (.tmp 42) (.tmp 44) _ rfl g 47 i0 (.agg #[.int .u32 0, .int .i64 0, .int .i64 0, .int .i64 0]) 32 Tryd.underlying42 hi0 hz0 hz1 hz2 rfl u6 k _ rfl HOA.out _ 1 _ (rcells [ofRul ⟨x0, x1, x2, x3⟩]) rfl rfl HNW.out (rcells_one _) (by unfold maxLen; omega) (by omega) hga ?_; intro v4 w4 hown4 hgrow4 _; have HO4 := Lib.hid hown4; have HG4 := Lib.hid hgrow4; clear hown4 hgrow4)
            have HB4 := Lib.hid (HBA.out.grown HG4.out hga (own_from4 HOA.out))
            have HO5 : Hid (w4.ownsRow g 47 4 v4 (k + 1) (rcells (acc ++ [ofRul ⟨x0, x1, x2, x3⟩]))) := by
              rw [rcells_append]
              exact HO4.out
            have HV5 : Hid (IsB w (.slice (cutA Ai ci 8 1) (ni - 8) (ci - 8)) (bi.drop 8)) := HV.out.from_ (k := 8) (by omega)
            clear HO4 HG4 HBA HOA HNW HV
            go_roundw
            case rel => exact ⟨k + 1, by omega, by go_num, _, _, HR2, HO5, HV5, HB4⟩
            case measure => simp [intOf]; omega
        · obtain rfl : k = n := by omega
          have hR2 : R = (acc, bi, 0) := by
            have h := HR.out
            rw [Nat.sub_self] at h
            exact h.symm
          have HIR : Hid (OwnR 47 w.heap.size u6 acc wr) := OwnR.mk HO.out (by rw [HGG.out]; exact Nat.le_refl _)
          by_cases h0 : 0 < ni
          · have HE2 : Hid (nodeT b = ([], 4)) := by
              show _ = _
              rw [HE.out, hR2]
              simp only [ne_eq, not_true_eq_false, if_false]
              rw [if_pos (by rw [HLI.out]; exact h0)]
            have t3 : decide ((ni : Int) > 0) = true := decide_eq_true (by omega)
            have t4 : decide (0 < ni) = true := decide_eq_true h0
            clear HE hR2 HR
            go_wp2_with fail
            go_ret2
            exact ⟨_, acc, by rw [HE2.out]; rfl, HIR.out, fun h => (by rw [HE2.out] at h; cases h), by rw [HGG.out]; exact HB.out⟩
          · have HE2 : Hid (nodeT b = (acc, 0)) := by
              show _ = _
              rw [HE.out, hR2]
              simp only [ne_eq, not_true_eq_false, if_false]
              rw [if_neg (by rw [HLI.out]; exact h0)]
            have t3 : decide ((ni : Int) > 0) = false := decide_eq_false (by omega)
            have t4 : decide (0 < ni) = false := decide_eq_false h0
            clear HE hR2 HR
            go_wp2_with fail
            go_ret2
            exact ⟨_, acc, by rw [HE2.out]; rfl, HIR.out, fun _ => by rw [HE2.out], by rw [HGG.out]; exact HB.out⟩
  · have HE : Hid (nodeT b = ([], 3)) := by
      show _ = _
      unfold nodeT
      rw [ht]
      simp
    rw [ht] at CG
    clear ht
    go_wp2_with fail
    refine CG.out.mono ?_
    rintro e1 w1 ⟨rfl, rfl⟩
    go_wp2_with fail
    go_ret2
    exact ⟨_, [], by rw [HE.out]; rfl, HN.out _, fun _ => by rw [HE.out], Below.refl _ _⟩
  · have HE : Hid (nodeT b = ([], 2)) := by
      show _ = _
      unfold nodeT
      rw [ht]
      simp
    rw [ht] at CG
    clear ht
    go_wp2_with fail
    refine CG.out.mono ?_
    rintro e1 w1 ⟨rfl, rfl⟩
    go_wp2_with fail
    go_ret2
    exact ⟨_, [], by rw [HE.out]; rfl, HN.out _, fun _ => by rw [HE.out], Below.refl _ _⟩
/-- what is told of a node's bytes -/
def nodeC (b : List UInt8) : Int := if (openF 84 b).2.2 ≠ 0 then (openF 84 b).2.2 else (nodeT (openF 84 b).1).2
theorem netsA_no {acc : Nt} {n : Nat} {b : List UInt8} {e : Int} (h : nodeC b = e) (he : e ≠ 0) : netsA acc (n + 1) b = ([], [], e) := by
  unfold nodeC at h
  by_cases h1 : (openF 84 b).2.2 = 0
  · rw [if_neg (by simpa using h1)] at h
    simp only [netsA]
    rw [if_neg (by simpa using h1), if_pos (by rw [h]; exact he), h]
  · rw [if_pos h1] at h
    simp only [netsA]
    rw [if_pos h1, h]
theorem netsA_yes {acc : Nt} {n : Nat} {b : List UInt8} (h : nodeC b = 0) : netsA acc (n + 1) b = netsA (acc ++ [(nodeT (openF 84 b).1).1]) n (openF 84 b).2.1 := by
  unfold nodeC at h
  by_cases h1 : (openF 84 b).2.2 = 0
  · rw [if_neg (by simpa using h1)] at h
    simp only [netsA]
    rw [if_neg (by simpa using h1), if_neg (by simpa using h)]
  · rw [if_pos h1] at h
    exact absurd h h1
theorem open84 (v : Value) (l : List UInt8) (w : World) (hv : IsB w v l) (hn : (l.length : Int) ≤ 1099511627776) :
    Calls Tryd.prog 77 #[.int .u8 84, v] w fun e w' =>
    ∃ a b, e = .returned (.tuple #[a, b, .int .i64 (openF 84 l).2.2]) ∧ OwnB 5 w.heap.size a (openF 84 l).1 w' ∧ OwnB 5 w.heap.size b (openF 84 l).2.1 w' ∧ Below w.heap.size w w' := open_own 84 v l w hv hn
set_option maxHeartbeats 4000000 in
/-- a node's rules and what is behind them; with an error some rules -/
theorem nfnt_own (v : Value) (b : List UInt8) (w : World) (hv : IsB w v b) (hn : (b.length : Int) ≤ 1099511627776) :
    Calls Tryd.prog 57 #[v] w fun e w' => ∃ u x lst c, e = .returned (.tuple #[u, x, .int .i64 c]) ∧ nodeC b = c ∧ OwnR 47 w.heap.size u lst w' ∧ (c = 0 → lst = (nodeT (openF 84 b).1).1 ∧ OwnB 5 w.heap.size x (openF 84 b).2.1 w') ∧ Below w.heap.size w w' := by
  have CO := Lib.hid (open84 v b w hv hn)
  have HC : Hid (nodeC b = if (openF 84 b).2.2 ≠ 0 then (openF 84 b).2.2 else (nodeT (openF 84 b).1).2) := rfl
  obtain ⟨f, hf⟩ : ∃ f, openF 84 b = f := ⟨_, rfl⟩
  rw [hf] at CO HC ⊢
  obtain ⟨so, ro, eo⟩ := f
  simp only at CO HC ⊢
  clear hv hn hf
  go_enter Tryd.func57, Tryd.ntmps57
  go_wp2_with fail
  refine CO.out.mono ?_
  rintro e1 w1 ⟨va, vb, rfl, hva, hvb, hb1⟩
  have HOB := Lib.hid hvb
  have HB1 := Lib.hid hb1
  have CN := Lib.hid (nfrt_own va so w1 hva.isb)
  clear hva hvb hb1 CO
  by_cases heo : eo = 0
  · subst heo
    have HC2 : Hid (nodeC b = (nodeT so).2) := by
      show _ = _
      rw [HC.out]
      simp
    obtain ⟨fn, hfn⟩ : ∃ f, nodeT so = f := ⟨_, rfl⟩
    rw [hfn] at CN HC2
    obtain ⟨ln, en⟩ := fn
    simp only at CN HC2
    have HFN : Hid (nodeT so = (ln, en)) := hfn
    clear hfn HC
    go_wp2_with fail
    refine CN.out.mono ?_
    rintro e2 w2 ⟨u, lst, rfl, hu, hlst, hb2⟩
    have HU : Hid (OwnR 47 w.heap.size u lst w2) := OwnR.mk hu HB1.out.size
    have HOB2 := Lib.hid (HOB.out.bel hb2)
    have HB2 := Lib.hid (HB1.out.trans (hb2.mono HB1.out.size))
    have HLS := Lib.hid hlst
    clear hu hlst hb2 CN
    go_wp2_with fail
    go_ret3
    exact ⟨_, _, lst, en, rfl, HC2.out, HU.out, fun h => ⟨by rw [HFN.out]; exact HLS.out h, HOB2.out⟩, HB2.out⟩
  · have t1 : (eo != 0) = true := by rw [bne_iff_ne]; exact heo
    have HC2 : Hid (nodeC b = eo) := by
      show _ = _
      rw [HC.out, if_pos heo]
    clear HC CN
    go_wp2_with fail
    go_ret3
    exact ⟨_, _, [], eo, rfl, HC2.out, World.ownsRow_nil _ _ _ _, fun h => absurd h heo, HB1.out⟩
end Go.Proofs.YtohggpaffmcfoaaDoor
