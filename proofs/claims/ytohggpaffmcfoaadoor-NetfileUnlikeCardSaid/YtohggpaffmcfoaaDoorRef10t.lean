/- Contract of theseusref10.Take: the network of bytes. -/
import Derived.Test.YtohggpaffmcfoaaDoorRef10n
import Derived.Test.YtohggpaffmcfoaaDoorMid
import Derived.Test.YtohggpaffmcfoaaDoorRef09m
import Derived.Test.YtohggpaffmcfoaaDoorNetOwn
import Derived.Laws.ResultCell
import Derived.Laws.Rows
import Derived.Laws.Tables
namespace Go.Proofs.YtohggpaffmcfoaaDoor
open Go.RowKit
set_option linter.unusedVariables false
set_option maxRecDepth 100000
set_option linter.unusedSimpArgs false
attribute [local go_sem ↓] sliced_cut

/-- a network in its block, and a number: two results -/
theorem results_net {fn : Func} {p u : Tmp} (h : fn.results = #[.cell p 24, .tmp u]) (tmps : Array Value) (w : World) (g : Nat) (x : Value)
    (hp : tmps.getD p undef = .pointer (some ⟨g, 0, none⟩)) (hg : w.heap[g]? = some (.cells #[x] 24 (0, 0))) :
    (results fn tmps).run Tryd.prog w = .ok (.tuple #[.agg #[x], tmps.getD u undef]) w := by
  have hl := run_loadVar_row (P := Tryd.prog) w g 24 24 #[x] (0, 0) _ hg Tryd.underlying24 rfl (by show _ = some 1; kernel_rfl)
  have ha : (asAddr (tmps.getD p undef)).run Tryd.prog w = .ok ⟨g, 0, none⟩ w := by rw [hp]; rfl
  rw [results_cell_tmp h, ha]
  show ((loadVar 24 ⟨g, 0, none⟩).run Tryd.prog w).andThen _ = _
  rw [hl]
  rfl
theorem isn_none (w : World) : IsN w (.agg #[.slice none 0 0]) [] := ⟨_, rfl, _, _, _, [], rfl, Nat.le_refl _, Nat.zero_le _, rfl, rfl, Has.nil_ _ _, fun i g => absurd g (by simp)⟩
theorem netsA_open {acc : Nt} {n : Nat} {b : List UInt8} {e : Int} (h : (openF 84 b).2.2 = e) (he : e ≠ 0) : netsA acc (n + 1) b = ([], [], e) := by
  subst h
  simp only [netsA]
  rw [if_pos he]
theorem netsA_node {acc : Nt} {n : Nat} {b s r : List UInt8} {e : Int} (h : openF 84 b = (s, r, 0)) (h2 : (nodeT s).2 = e) (he : e ≠ 0) : netsA acc (n + 1) b = ([], [], e) := by
  subst h2
  simp only [netsA, h]
  simp [he]
theorem netsA_step {acc : Nt} {n : Nat} {b s r : List UInt8} {l : List Rl} (h : openF 84 b = (s, r, 0)) (h2 : nodeT s = (l, 0)) : netsA acc (n + 1) b = netsA (acc ++ [l]) n r := by
  simp only [netsA, h, h2]
  simp
theorem openF_le (t : UInt8) (b : List UInt8) : (openF t b).1.length ≤ b.length ∧ (openF t b).2.1.length ≤ b.length := by
  cases b with
  | nil => simp [openF]
  | cons x l =>
    unfold openF
    simp only
    split
    · simp
    · split
      · simp
      · split
        · simp
        · simp only [List.length_take, List.length_drop, List.length_cons]
          omega
theorem takeF_le (m : Nat) (b : List UInt8) : (takeF m b).1.length ≤ b.length := by
  unfold takeF
  split
  · simp
  · split
    · simp
    · split
      · simp
      · simp only [List.length_drop, List.length_take]
        omega
theorem own_size1 {w : World} {base size n : Nat} {e : TypeId} {v : Value} {xs : List Value} (h : w.ownsRow base e size v n xs) : ∀ q, v.ownBlock = some q → q < w.heap.size := by
  intro q hq
  rcases h.2 with ⟨rfl, _⟩ | ⟨g, cap, cur, rfl, _, h3, _⟩
  · simp [Value.ownBlock] at hq
  · obtain rfl : g = q := by simpa [Value.ownBlock] using hq
    exact (Array.getElem?_eq_some_iff.1 h3).1
theorem ropen84 (v : Value) (l : List UInt8) (w : World) (hv : IsB w v l) (hn : (l.length : Int) ≤ 1099511627776) :
    Calls Tryd.prog 33 #[.int .u8 84, v] w fun e w' =>
    ∃ a b, e = .returned (.tuple #[a, b, .int .i64 (openF 84 l).2.2]) ∧ OwnB 5 w.heap.size a (openF 84 l).1 w' ∧ OwnB 5 w.heap.size b (openF 84 l).2.1 w' ∧ Below w.heap.size w w' := ropen_own 84 v l w hv hn
set_option maxHeartbeats 8000000 in
theorem rnftake_any (v : Value) (b : List UInt8) (w : World) (hv : IsB w v b) (hbl : (b.length : Int) ≤ 1000000) :
    Calls Tryd.prog 16 #[v] w fun e w' => ∃ u, e = .returned (.tuple #[u, .int .i64 (takeNf b).2]) ∧ IsN w' u (takeNf b).1 ∧ Below w.heap.size w w' := by
  obtain ⟨A0, N0, c0, rfl, hnc, hcm, hl, hA⟩ := hv
  have HV : Hid (IsB w (.slice A0 N0 c0) b) := ⟨A0, N0, c0, rfl, hnc, hcm, hl, hA⟩
  obtain ⟨g, hg⟩ : ∃ g, w.heap.size = g := ⟨_, rfl⟩
  have HGG := Lib.hid hg
  have HG0 : Hid (Blk g #[.slice none 0 0] 24 (w.alloc (.cells #[.slice none 0 0] 24))) := by
    subst hg
    exact Blk.new _ _ _
  have HB0 : Hid (Below g w (w.alloc (.cells #[.slice none 0 0] 24))) := by
    subst hg
    exact (Below.refl w.heap.size w).alloc (Nat.le_refl _) _
  have CT := Lib.hid (rftake_any magicN (.slice A0 N0 c0) b _ (by decide) (HV.out.bel (by rw [HGG.out]; exact HB0.out)) (by omega))
  have HLF := Lib.hid (takeF_le magicN b)
  have HBL := Lib.hid hbl
  unfold magicN at CT
  clear hnc hcm hl hA hbl
  -- the end with an error
  go_enter Tryd.func16, Tryd.ntmps16
  go_wp2_with fail
  refine CT.out.mono ?_
  rintro e1 w1 ⟨v1, rfl, hv1, hb1⟩
  have HB1 : Hid (Below g w w1) := HB0.out.trans (hb1.mono (by have h1 := HB0.out.size; have h2 := HGG.out; omega))
  have HG1 := Lib.hid (HG0.out.bel hb1)
  clear hb1 CT HB0 HG0 HV hg
  have hfold : takeF 1179206193 b = takeF magicN b := rfl
  rw [hfold] at hv1 ⊢
  clear hfold
  have HE0 : Hid (takeNf b = if (takeF magicN b).2 ≠ 0 then ([], (takeF magicN b).2) else bodyT (takeF magicN b).1) := rfl
  obtain ⟨f, hf⟩ : ∃ f, takeF magicN b = f := ⟨_, rfl⟩
  rw [hf] at hv1 HE0 HLF ⊢
  obtain ⟨q, ef⟩ := f
  simp only at hv1 HE0 HLF ⊢
  have HR1 := HG1.out
  clear hf
  by_cases hef : ef = 0
  · subst hef
    have HE1 : Hid (takeNf b = bodyT q) := by
      show _ = _
      rw [HE0.out]
      simp
    have HLQ : Hid ((q.length : Int) ≤ 1000000) := by
      have h1 := HLF.out
      have h2 := HBL.out
      show _ ≤ _
      omega
    obtain ⟨A, N, c, rfl, hnc, hcm, hl, hA⟩ := hv1
    have HV1 : Hid (IsB w1 (.slice A N c) q) := ⟨A, N, c, rfl, hnc, hcm, hl, hA⟩
    have CG := Lib.hid (rgtake_any (.slice A N c) q w1 HV1.out)
    have HL := Lib.hid hl
    unfold maxLen at hcm
    clear hl hA HE0 HLF HBL
    rcases taken_grp q with ⟨n, hn, ht, hg1, hg2⟩ | ht | ⟨ht, _⟩
    · have HT : Hid (takeG q = ((n : Int), (gsize n : Int), 0)) := ht
      rw [ht] at CG
      rw [HL.out] at hg1
      obtain ⟨s, hs⟩ : ∃ s, gsize n = s := ⟨_, rfl⟩
      rw [hs] at CG hg1
      have HS := Lib.hid hs
      clear ht hg2 hs
      by_cases hbig : 256 < n
      · have HE2 : Hid (takeNf b = ([], 12)) := by
          show _ = _
          rw [HE1.out]
          unfold bodyT
          rw [HT.out]
          simp only [ne_eq, not_true_eq_false, if_false]
          rw [if_pos (by omega)]
        have t1 : decide ((n : Int) > 256) = true := decide_eq_true (by omega)
        have t2 : decide (256 < n) = true := decide_eq_true hbig
        clear HE1
        go_wp2_with fail
        refine CG.out.mono ?_
        rintro e2 w2 ⟨rfl, rfl⟩
        go_wp2_with (refine wpList_store_row rfl 24 (.tmp 2) (.tmp 38) rfl g #[.slice none 0 0] rfl rfl 24 #[.slice none 0 0] HR1 rfl rfl (by simp [Value.oneCell']) ?_)
        (try simp only [Exit.inBlock, Exit.then])
        exact bodyPost_ret (results_net rfl _ _ g (.slice none 0 0) rfl (setRow_heap _ _ _ _ _ _ HR1)) rfl ⟨_, by rw [HE2.out]; rfl, by rw [HE2.out]; exact isn_none _, below_setRow (by rw [HGG.out]; exact HB1.out) (by rw [HGG.out]; exact Nat.le_refl _) _⟩
      · have t1 : decide ((n : Int) > 256) = false := decide_eq_false (by omega)
        have t2 : decide (256 < n) = false := decide_eq_false hbig
        have hnb : (n : Int) ≤ 256 := by omega
        obtain ⟨b0, hb0⟩ : ∃ b0, q.drop s = b0 := ⟨_, rfl⟩
        have HE2 : Hid (takeNf b = endT (netsA [] n b0)) := by
          show _ = _
          rw [HE1.out]
          unfold bodyT
          rw [HT.out]
          simp only [ne_eq, not_true_eq_false, if_false, Int.toNat_natCast]
          rw [if_neg (by omega), HS.out, hb0]
        have HL0 : Hid ((b0.length : Int) ≤ 1000000) := by
          have h1 := HLQ.out
          show _ ≤ _
          rw [← hb0, List.length_drop]
          omega
        have HV2 : Hid (IsB w1 (.slice (cutA A c s 1) (N - s) (c - s)) b0) := by
          rw [← hb0]
          exact HV1.out.from_ hg1
        obtain ⟨R, hR⟩ : ∃ R, netsA [] n b0 = R := ⟨_, rfl⟩
        rw [hR] at HE2
        have HR0 : Hid (netsA [] (n - 0) b0 = R) := hR
        have HRR := Lib.hid hR
        have HLB0 := Lib.hid HL0.out
        have hsc : s ≤ c := by omega
        have hsi : (s : Int) ≤ (N : Int) := by omega
        have hsci : (s : Int) ≤ (c : Int) := by omega
        have HII := Lib.hid row_info
        obtain ⟨G, hG⟩ : ∃ G, w1.heap.size = G := ⟨_, rfl⟩
        have HGL : Hid (g < G) := by
          have h := HG1.out.size
          show _ < _
          omega
        have hbx : Below w1.heap.size w1 (w1.alloc (.cells #[.slice none 0 0] 24)) := (Below.refl _ _).alloc (Nat.le_refl _) _
        have HX0 : Hid (Blk G #[.slice none 0 0] 24 (w1.alloc (.cells #[.slice none 0 0] 24))) := by
          rw [← hG]
          exact Blk.new _ _ _
        have HG2 := Lib.hid (HG1.out.bel hbx)
        have HB2 : Hid (Below g w (w1.alloc (.cells #[.slice none 0 0] 24))) := HB1.out.trans (hbx.mono (by rw [hG]; have := HGL.out; omega))
        have HV3 := Lib.hid (HV2.out.bel hbx)
        clear hb0 hR hbig HE1 HV1 HV2 HB1 HG1 HR1 hbx HLQ
        go_wp2_with fail
        refine CG.out.mono ?_
        rintro e2 w2 ⟨rfl, rfl⟩
        clear CG
        go_wp2_with fail
        clear hG t1 t2
        generalize w1.alloc (.cells #[.slice none 0 0] 24) = w2 at *
        go_loopw [4, 10] (fun x i wr => ∃ k : Nat, k ≤ n ∧ i = .int .i64 k ∧ ∃ (acc : Nt) (bi : List UInt8) (y : Value) (vs : List Value), Hid (netsA acc (n - k) bi = R) ∧ Hid ((bi.length : Int) ≤ 1000000) ∧ Hid (IsB wr x bi) ∧ Hid (Blk g #[.slice none 0 0] 24 wr) ∧ Hid (Blk G #[y] 24 wr) ∧ Hid (wr.ownsRow (G + 1) 42 1 y k vs) ∧ Hid (RowsOwn (G + 1) acc vs wr) ∧ Hid (Below g w wr)) (fun _ i _ => n - (intOf i).toNat)
        case atStart => exact ⟨0, by omega, rfl, [], b0, _, [], HR0, HL0, HV3, HG2, HX0, World.ownsRow_nil _ _ _ _, RowsOwn.nil _ _, HB2⟩
        case round =>
          clear HR0 HL0 HV3 HG2 HX0 HB2
          obtain ⟨k, hk, rfl, acc, bi, y, vs, HR, HLB, HV, HG, HX, HO, HRW, HB⟩ := hrel
          have hgw : g ≤ wr.heap.size := by have := HG.out.size; omega
          have HGW : Hid (G < wr.heap.size) := HX.out.size
          by_cases hlt : k < n
          · have hki : (k : Int) < (n : Int) := by omega
            have CO := Lib.hid (ropen84 u4 bi wr HV.out (by have := HLB.out; omega))
            have HOL := Lib.hid (openF_le 84 bi)
            have hnk : n - k = (n - (k + 1)) + 1 := by omega
            obtain ⟨fo, hfo⟩ : ∃ f, openF 84 bi = f := ⟨_, rfl⟩
            have HFO := Lib.hid hfo
            rw [hfo] at CO HOL
            obtain ⟨so, ro, eo⟩ := fo
            simp only at CO HOL
            clear hfo
            go_wp2_with fail
            refine CO.out.mono ?_
            rintro e3 w3 ⟨va, vb, rfl, hva, hvb, hb3⟩
            have HOA := Lib.hid hva
            have HOB := Lib.hid hvb
            have HG3 := Lib.hid (HG.out.bel hb3)
            have HX3 := Lib.hid (HX.out.bel hb3)
            have HO3 := Lib.hid (own_bel HO.out hb3)
            have HT3 := Lib.hid (HRW.out.bel hb3)
            have HB3 := Lib.hid (HB.out.trans (hb3.mono hgw))
            have HYS : Hid (∀ q, y.ownBlock = some q → q < wr.heap.size) := own_size1 HO.out
            have HZ3 := Lib.hid hb3.size
            have HR3 := HG3.out
            clear hva hvb hb3 CO HV HG HX HO HRW HB
            by_cases heo : eo = 0
            · subst heo
              have CN := Lib.hid (rnode_own va so w3 HOA.out.isb)
              obtain ⟨fn, hfn⟩ : ∃ f, nodeT so = f := ⟨_, rfl⟩
              have HFN := Lib.hid hfn
              rw [hfn] at CN
              obtain ⟨ln, en⟩ := fn
              simp only at CN
              clear hfn HR3
              go_wp2_with fail
              refine CN.out.mono ?_
              rintro e4 w4 ⟨u, rfl, hu, hb4⟩
              have hg3 : g ≤ w3.heap.size := by have := HG3.out.size; omega
              have HG4 := Lib.hid (HG3.out.bel hb4)
              have HX4 := Lib.hid (HX3.out.bel hb4)
              have HO4 := Lib.hid (own_bel HO3.out hb4)
              have HT4 := Lib.hid (HT3.out.bel hb4)
              have HB4 := Lib.hid (HB3.out.trans (hb4.mono hg3))
              have HOB4 := Lib.hid (HOB.out.bel hb4)
              have HU4 : Hid (OwnR 47 (G + 1) u ln w4) := OwnR.mk hu (by have := HX3.out.size; omega)
              have HZ4 : Hid (wr.heap.size ≤ w4.heap.size) := by
                have h1 := HZ3.out
                have h2 := hb4.size
                show _ ≤ _
                omega
              have HR4 := HG4.out
              clear hu hb4 hg3 CN HG3 HX3 HO3 HT3 HB3 HOB HOA HZ3
              by_cases hen : en = 0
              · subst hen
                clear HR4
                have HRN : Hid (netsA (acc ++ [ln]) (n - (k + 1)) ro = R) := by
                  have h := HR.out
                  rw [hnk, netsA_step HFO.out HFN.out] at h
                  exact h
                have HLR : Hid ((ro.length : Int) ≤ 1000000) := by
                  have h1 := HLB.out
                  have h2 := HOL.out.2
                  show _ ≤ _
                  omega
                obtain ⟨Au, cu, rfl, hcu, hmu, hhu⟩ := HU4.out.isr.slice
                obtain ⟨L, hL⟩ : ∃ L, ln.length = L := ⟨_, rfl⟩
                rw [hL] at hcu HU4 ⊢
                have hbx : Below w4.heap.size w4 (w4.alloc (.cells #[.slice Au L cu] 42)) := (Below.refl _ _).alloc (Nat.le_refl _) _
                have hGs : G + 1 ≤ (w4.alloc (.cells #[.slice Au L cu] 42)).heap.size := by
                  have := HX4.out.size
                  rw [World.size_alloc]
                  omega
                have HGA := Lib.hid (HG4.out.bel hbx)
                have HXA := Lib.hid (HX4.out.bel hbx)
                have HOA := Lib.hid (own_bel HO4.out hbx)
                have HTA := Lib.hid ((HT4.out.snoc HU4.out).bel hbx)
                have HBA := Lib.hid (HB4.out.trans (hbx.mono (by have := HG4.out.size; omega)))
                have HRA := Lib.hid (HOB4.out.bel hbx)
                have HNA : Hid (Has (w4.alloc (.cells #[.slice Au L cu] 42)) (some ⟨w4.heap.size, 0, none⟩) [.slice Au L cu]) := Has.new w4 [.slice Au L cu] 42 (0, 0)
                have hgl := HGL.out
                have hya : ∀ r, y.ownBlock = some r → G + 1 ≤ r := fun r hr => (HOA.out.lt r hr).1
                have HYA := Lib.hid hya
                have hga : g ≤ (w4.alloc (.cells #[.slice Au L cu] 42)).heap.size := by omega
                have q1 := HX4.out.cell 0 rfl
                obtain ⟨i0, hi0, hz0, hz1, hz2⟩ := info_parts HII.out
                clear HX4 HO4 HT4 HB4 HOB4 HG4 hbx hya HU4 hL HZ4
                go_wp2_with (at_builtin; refine wpList_append_has _ rfl (.tmp 68) (.tmp 70) _ rfl (G + 1) 42 i0 (.slice none 0 0) 24 Tryd.underlying22 hi0 hz0 hz1 hz2 rfl y k vs rfl HOA.out _ 1 _ [.slice Au L cu] rfl rfl HNA.out (by simp [Value.oneCell']) (by unfold maxLen; omega) (by omega) hGs ?_; intro v9 w9 hown9 hgrow9 hat9; obtain ⟨b9, c9, hv9, _, _⟩ := World.ownsRow.form hown9 (by omega); subst hv9; have HG9 := Lib.hid (HXA.out.grown hgrow9 (fun e => by have := HYA.out _ e; omega)); have q9 := HG9.out.cell 0 rfl; have z9 := HG9.out.froz 0; have HOW := Lib.hid hown9; have HGR := Lib.hid hgrow9; clear hown9 hgrow9 hat9)
                have HGF : Hid (Blk g #[.slice none 0 0] 24 (w9.setCell ⟨G, 0, none⟩ (.slice (some ⟨b9, 0, none⟩) (k + 1) c9))) := (HGA.out.grown HGR.out (fun e => by have := HYA.out _ e; omega)).far G 0 _ (by omega)
                have HXF : Hid (Blk G #[.slice (some ⟨b9, 0, none⟩) (k + 1) c9] 24 (w9.setCell ⟨G, 0, none⟩ (.slice (some ⟨b9, 0, none⟩) (k + 1) c9))) := HG9.out.set 0 _ rfl
                have HOF : Hid ((w9.setCell ⟨G, 0, none⟩ (.slice (some ⟨b9, 0, none⟩) (k + 1) c9)).ownsRow (G + 1) 42 1 (.slice (some ⟨b9, 0, none⟩) (k + 1) c9) (k + 1) (vs ++ [.slice Au L cu])) := ownsRow_setCell_below HOW.out (by show G < G + 1; omega) _
                have HTF : Hid (RowsOwn (G + 1) (acc ++ [ln]) (vs ++ [.slice Au L cu]) (w9.setCell ⟨G, 0, none⟩ (.slice (some ⟨b9, 0, none⟩) (k + 1) c9))) := (HTA.out.grown HOA.out HGR.out).far HG9.out (by decide) _
                have HBF : Hid (Below g w (w9.setCell ⟨G, 0, none⟩ (.slice (some ⟨b9, 0, none⟩) (k + 1) c9))) := (HBA.out.grown HGR.out hga (fun r hr => by have := HYA.out r hr; omega)).setCell (p := ⟨G, 0, none⟩) (by show g ≤ G; omega) _
                have HVF : Hid (IsB (w9.setCell ⟨G, 0, none⟩ (.slice (some ⟨b9, 0, none⟩) (k + 1) c9)) vb ro) := by
                  have h1 : OwnB 5 wr.heap.size vb ro w9 := World.ownsRow.kept HRA.out HGR.out (by
                    rcases hvb' : vb.ownBlock with _ | r
                    · exact .inl rfl
                    · refine .inr fun e => ?_
                      have h2 := (HRA.out.lt r hvb').1
                      have h3 := HYS.out r e.symm
                      omega)
                  exact (h1.far G 0 _ HGW.out).isb
                clear HGA HXA HOA HTA HBA HRA HNA HYA HOW HGR HG9 q9 z9
                go_roundw
                case rel => exact ⟨k + 1, by omega, by go_num, _, _, _, _, HRN, HLR, HVF, HGF, HXF, HOF, HTF, HBF⟩
                case measure => simp [intOf]; omega
              · have HEN : Hid (takeNf b = ([], en)) := by
                  have h := HR.out
                  rw [hnk, netsA_node HFO.out (by rw [HFN.out]) hen] at h
                  show _ = _
                  rw [HE2.out, ← h]
                  exact endT_err hen
                have t1 : (en != 0) = true := by rw [bne_iff_ne]; exact hen
                clear HE2 HR
                go_wp2_with (refine wpList_store_row rfl 24 (.tmp 2) (.tmp 65) rfl g #[.slice none 0 0] rfl rfl 24 #[.slice none 0 0] HR4 rfl rfl (by simp [Value.oneCell']) ?_)
                (try simp only [Exit.inBlock, Exit.then])
                exact bodyPost_ret (results_net rfl _ _ g (.slice none 0 0) rfl (setRow_heap _ _ _ _ _ _ HR4)) rfl ⟨_, by rw [HEN.out]; rfl, by rw [HEN.out]; exact isn_none _, below_setRow (by rw [HGG.out]; exact HB4.out) (by rw [HGG.out]; exact Nat.le_refl _) _⟩
            · have HEN : Hid (takeNf b = ([], eo)) := by
                have h := HR.out
                rw [hnk, netsA_open (by rw [HFO.out]) heo] at h
                show _ = _
                rw [HE2.out, ← h]
                exact endT_err heo
              have t1 : (eo != 0) = true := by rw [bne_iff_ne]; exact heo
              clear HE2 HR
              go_wp2_with (refine wpList_store_row rfl 24 (.tmp 2) (.tmp 56) rfl g #[.slice none 0 0] rfl rfl 24 #[.slice none 0 0] HR3 rfl rfl (by simp [Value.oneCell']) ?_)
              (try simp only [Exit.inBlock, Exit.then])
              exact bodyPost_ret (results_net rfl _ _ g (.slice none 0 0) rfl (setRow_heap _ _ _ _ _ _ HR3)) rfl ⟨_, by rw [HEN.out]; rfl, by rw [HEN.out]; exact isn_none _, below_setRow (by rw [HGG.out]; exact HB3.out) (by rw [HGG.out]; exact Nat.le_refl _) _⟩
          · obtain rfl : k = n := by omega
            have hR2 : R = (acc, bi, 0) := by
              have h := HR.out
              rw [Nat.sub_self] at h
              exact h.symm
            obtain ⟨Ai, ni, ci, rfl, hnci, hcmi, hli, hAi⟩ := HV.out
            have HLI := Lib.hid hli
            clear hAi hli
            have HR5 := HG.out
            by_cases h0 : 0 < ni
            · have HE3 : Hid (takeNf b = ([], 4)) := by
                show _ = _
                rw [HE2.out, hR2]
                unfold endT
                simp only [ne_eq, not_true_eq_false, if_false]
                rw [if_pos (by rw [HLI.out]; exact h0)]
              have t3 : decide ((ni : Int) > 0) = true := decide_eq_true (by omega)
              have t4 : decide (0 < ni) = true := decide_eq_true h0
              clear HE2 hR2 HR
              go_wp2_with (refine wpList_store_row rfl 24 (.tmp 2) (.tmp 77) rfl g #[.slice none 0 0] rfl rfl 24 #[.slice none 0 0] HR5 rfl rfl (by simp [Value.oneCell']) ?_)
              (try simp only [Exit.inBlock, Exit.then])
              exact bodyPost_ret (results_net rfl _ _ g (.slice none 0 0) rfl (setRow_heap _ _ _ _ _ _ HR5)) rfl ⟨_, by rw [HE3.out]; rfl, by rw [HE3.out]; exact isn_none _, below_setRow (by rw [HGG.out]; exact HB.out) (by rw [HGG.out]; exact Nat.le_refl _) _⟩
            · have HE3 : Hid (takeNf b = if mayN acc ≠ 0 then ([], mayN acc) else (acc, 0)) := by
                show _ = _
                rw [HE2.out, hR2]
                unfold endT
                simp only [ne_eq, not_true_eq_false, if_false]
                rw [if_neg (by rw [HLI.out]; exact h0)]
              have t3 : decide ((ni : Int) > 0) = false := decide_eq_false (by omega)
              have t4 : decide (0 < ni) = false := decide_eq_false h0
              have hRk : netsA [] k b0 = (acc, bi, 0) := HRR.out.trans hR2
              obtain ⟨N', n1, n2, n3, n4⟩ := netsA_taken k [] b0 (by rw [hRk])
              rw [hRk] at n2 n3
              simp only [List.nil_append] at n2 n3
              subst n2
              have hwf : WfN acc := n4
              have hsz : szN acc ≤ 1000000 := by
                have h1 := sectsB_ge acc
                have h2 := congrArg List.length n3
                rw [List.length_append] at h2
                have h3 := HLB0.out
                omega
              have hIS : IsN wr (.agg #[y]) acc := (HRW.out.isS HO.out).mk
              have CM := Lib.hid (rmayN_any (.agg #[y]) acc wr hIS hsz hwf)
              have HIS : Hid (OwnN (G + 1) (.agg #[y]) acc wr) := ⟨y, vs, rfl, by rw [n1]; exact HO.out, HRW.out⟩
              have q1 := HX.out.cell 0 rfl
              obtain ⟨em, hem⟩ : ∃ em, mayN acc = em := ⟨_, rfl⟩
              rw [hem] at HE3 CM
              clear HE2 hR2 HR hRk n1 n3 n4 hwf hsz hIS hem HRR
              go_wp2_with fail
              refine CM.out.mono ?_
              rintro e6 w6 ⟨rfl, hb6⟩
              have HG6 := Lib.hid (HG.out.bel hb6)
              have HX6 := Lib.hid (HX.out.bel hb6)
              have HI6 := Lib.hid (HIS.out.bel hb6)
              have HB6 := Lib.hid (HB.out.trans (hb6.mono hgw))
              have HR6 := HG6.out
              have HX7 := HX6.out
              clear hb6 CM q1 HIS HG HX HB
              by_cases hm : em = 0
              · subst hm
                have HE4 : Hid (takeNf b = (acc, 0)) := by
                  show _ = _
                  rw [HE3.out]
                  simp
                clear HE3
                obtain ⟨Ay, cy, hy, _, _, _⟩ := HI6.out.isN.slice
                injection hy with hy
                simp at hy
                have HY := Lib.hid hy
                clear hy
                go_wp2_with (first | (refine wpList_load_row rfl 24 (.tmp 9) rfl G rfl 24 #[y] (0, 0) _ HX7 Tryd.underlying24 rfl rfl ?_) | (refine wpList_store_row rfl 24 (.tmp 2) (.tmp 84) rfl g #[y] rfl rfl 24 #[.slice none 0 0] HR6 rfl rfl (by rw [HY.out]; simp [Value.oneCell']) ?_))
                (try simp only [Exit.inBlock, Exit.then])
                have hIF : IsN (w6.setRow g #[y]) (.agg #[y]) acc := (HI6.out.kept (setRow_grown w6 g #[y]) (by have := HGL.out; omega)).isN
                exact bodyPost_ret (results_net rfl _ _ g y rfl (setRow_heap _ _ _ _ _ _ HR6)) rfl ⟨_, by rw [HE4.out]; rfl, by rw [HE4.out]; exact hIF, below_setRow (by rw [HGG.out]; exact HB6.out) (by rw [HGG.out]; exact Nat.le_refl _) _⟩
              · have HE4 : Hid (takeNf b = ([], em)) := by
                  show _ = _
                  rw [HE3.out, if_pos hm]
                have t5 : (em != 0) = true := by rw [bne_iff_ne]; exact hm
                clear HE3
                go_wp2_with (refine wpList_store_row rfl 24 (.tmp 2) (.tmp 82) rfl g #[.slice none 0 0] rfl rfl 24 #[.slice none 0 0] HR6 rfl rfl (by simp [Value.oneCell']) ?_)
                (try simp only [Exit.inBlock, Exit.then])
                exact bodyPost_ret (results_net rfl _ _ g (.slice none 0 0) rfl (setRow_heap _ _ _ _ _ _ HR6)) rfl ⟨_, by rw [HE4.out]; rfl, by rw [HE4.out]; exact isn_none _, below_setRow (by rw [HGG.out]; exact HB6.out) (by rw [HGG.out]; exact Nat.le_refl _) _⟩
    · have HE2 : Hid (takeNf b = ([], 3)) := by
        show _ = _
        rw [HE1.out]
        unfold bodyT
        rw [ht]
        simp
      rw [ht] at CG
      clear HE1 ht
      go_wp2_with fail
      refine CG.out.mono ?_
      rintro e2 w2 ⟨rfl, rfl⟩
      go_wp2_with (refine wpList_store_row rfl 24 (.tmp 2) (.tmp 34) rfl g #[.slice none 0 0] rfl rfl 24 #[.slice none 0 0] HR1 rfl rfl (by simp [Value.oneCell']) ?_)
      (try simp only [Exit.inBlock, Exit.then])
      exact bodyPost_ret (results_net rfl _ _ g (.slice none 0 0) rfl (setRow_heap _ _ _ _ _ _ HR1)) rfl ⟨_, by rw [HE2.out]; rfl, by rw [HE2.out]; exact isn_none _, below_setRow (by rw [HGG.out]; exact HB1.out) (by rw [HGG.out]; exact Nat.le_refl _) _⟩
    · have HE2 : Hid (takeNf b = ([], 2)) := by
        show _ = _
        rw [HE1.out]
        unfold bodyT
        rw [ht]
        simp
      rw [ht] at CG
      clear HE1 ht
      go_wp2_with fail
      refine CG.out.mono ?_
      rintro e2 w2 ⟨rfl, rfl⟩
      go_wp2_with (refine wpList_store_row rfl 24 (.tmp 2) (.tmp 34) rfl g #[.slice none 0 0] rfl rfl 24 #[.slice none 0 0] HR1 rfl rfl (by simp [Value.oneCell']) ?_)
      (try simp only [Exit.inBlock, Exit.then])
      exact bodyPost_ret (results_net rfl _ _ g (.slice none 0 0) rfl (setRow_heap _ _ _ _ _ _ HR1)) rfl ⟨_, by rw [HE2.out]; rfl, by rw [HE2.out]; exact isn_none _, below_setRow (by rw [HGG.out]; exact HB1.out) (by rw [HGG.out]; exact Nat.le_refl _) _⟩
  · have HE1 : Hid (takeNf b = ([], ef)) := by
      show _ = _
      rw [HE0.out, if_pos hef]
    have t1 : (ef != 0) = true := by rw [bne_iff_ne]; exact hef
    clear HE0
    go_wp2_with (refine wpList_store_row rfl 24 (.tmp 2) (.tmp 24) rfl g #[.slice none 0 0] rfl rfl 24 #[.slice none 0 0] HR1 rfl rfl (by simp [Value.oneCell']) ?_)
    (try simp only [Exit.inBlock, Exit.then])
    exact bodyPost_ret (results_net rfl _ _ g (.slice none 0 0) rfl (setRow_heap _ _ _ _ _ _ HR1)) rfl ⟨_, by rw [HE1.out]; rfl, by rw [HE1.out]; exact isn_none _, below_setRow (by rw [HGG.out]; exact HB1.out) (by rw [HGG.out]; exact Nat.le_refl _) _⟩
end Go.Proofs.YtohggpaffmcfoaaDoor
