/- Contracts of package table: Find, Next, May. -/
import Derived.Test.YtpfpkghihpcbkaaTblKit
import Derived.Test.YtpfpkghihpcbkaaPfxH
import Derived.Test.YtpfpkghihpcbkaaRulM
import Derived.Test.YtpfpkghihpcbkaaBlk
import Derived.Deep.DeepCutAuto
import Derived.Deep.RegionHeld3
import Derived.BigQuiet
import Derived.Laws.CopyOwn
import Derived.WalkMore
import Derived.Scope
namespace Go.Proofs.Ytpfpkghihpcbkaa
open Go.RowKit
set_option linter.unusedVariables false
set_option linter.unusedSimpArgs false

theorem rcs_l (r : Rl) : rcs r.at_ r.len r.act r.nxt = #[.int .u32 (r.at_ : Int), .int .i64 r.len, .int .i64 r.act, .int .i64 r.nxt] := rfl
def rlc (r : Rl) : Array Value := rcs r.at_ r.len r.act r.nxt
theorem tholds_q (r : Rl) (a : Nat) (w : World) (hr : (r.at_ : Int) ≤ 4294967295) (ha : (a : Int) ≤ 4294967295) :
    Calls Try.prog 42 #[.int .u32 (r.at_ : Int), .int .i64 r.len, .int .u32 (a : Int)] w fun e w' => e = .returned (.bool (holdR r a)) ∧ Below w.heap.size w w' :=
  holds_any r.at_ a r.len w hr ha
theorem Blk.drewM {g : Nat} {cs : Array Value} {t : TypeId} {w : World} (h : Blk g cs t w) (k : Nat) : Blk g cs t (w.drewN k) := h
set_option maxHeartbeats 4000000 in
theorem tfind_any (v : Value) (l : List Rl) (a : Nat) (w : World) (hv : IsR w v l) (ha : (a : Int) ≤ 4294967295) (hwf : ∀ r ∈ l, r.at_ ≤ 4294967295) :
    Calls Try.prog 33 #[v, .int .u32 (a : Int)] w fun e w' => e = .returned (.tuple #[.agg #[.int .u32 ((foundR (findF l a)).at_ : Int), .int .i64 (foundR (findF l a)).len, .int .i64 (foundR (findF l a)).act, .int .i64 (foundR (findF l a)).nxt], .bool (findF l a).isSome]) ∧ Below w.heap.size w w' := by
  obtain ⟨A, n, c, rfl, hn, hc, hl, hA⟩ := hv
  have HA := Lib.hid hA
  have HL := Lib.hid hl
  have HW := Lib.hid hwf
  have hnm : (n : Int) ≤ 9223372036854775807 := by unfold maxLen at hc; omega
  clear hA hl hwf hn hc
  obtain ⟨g, hg⟩ : ∃ g, w.heap.size = g := ⟨_, rfl⟩
  have HGG := Lib.hid hg
  have HR0 : Hid (Blk g (rcs 0 0 0 0) 46 ((w.alloc (.cells #[.int .u32 0, .int .i64 0, .int .i64 0, .int .i64 0] 46)).alloc (.cells #[.int .u32 0, .int .i64 0, .int .i64 0, .int .i64 0] 46))) := by
    subst hg
    exact (Blk.new w _ _).bel ((Below.refl _ _).alloc (Nat.le_refl _) _)
  have HL0 : Hid (Blk (g + 1) (rlc (foundR none)) 46 ((w.alloc (.cells #[.int .u32 0, .int .i64 0, .int .i64 0, .int .i64 0] 46)).alloc (.cells #[.int .u32 0, .int .i64 0, .int .i64 0, .int .i64 0] 46))) := by
    subst hg
    have h := Blk.new (w.alloc (.cells #[.int .u32 0, .int .i64 0, .int .i64 0, .int .i64 0] 46)) (rcs 0 0 0 0) 46
    rw [World.size_alloc] at h
    exact h
  have HB0 : Hid (Below g w ((w.alloc (.cells #[.int .u32 0, .int .i64 0, .int .i64 0, .int .i64 0] 46)).alloc (.cells #[.int .u32 0, .int .i64 0, .int .i64 0, .int .i64 0] 46))) := by
    subst hg
    exact ((Below.refl w.heap.size w).alloc (Nat.le_refl _) _).alloc (by simp only [World.size_alloc]; omega) _
  go_enter Try.func33, Try.ntmps33
  go_wp2
  clear hg
  generalize (w.alloc (.cells #[.int .u32 0, .int .i64 0, .int .i64 0, .int .i64 0] 46)).alloc (.cells #[.int .u32 0, .int .i64 0, .int .i64 0, .int .i64 0] 46) = w1 at *
  go_loopw [7, 12] (fun b i wr => ∃ k : Nat, ∃ o : Option Rl, k ≤ n ∧ i = .int .i64 k ∧ b = .bool o.isSome ∧ Hid (findF (l.take k) a = o) ∧ Hid (Blk g (rcs 0 0 0 0) 46 wr) ∧ Hid (Blk (g + 1) (rlc (foundR o)) 46 wr) ∧ Hid (Below g w wr)) (fun _ i _ => n - (intOf i).toNat)
  case atStart => exact ⟨0, none, by omega, rfl, rfl, rfl, HR0, HL0, HB0⟩
  case round =>
    obtain ⟨k, o, hk, rfl, rfl, HF, HR, HQ, HB⟩ := hrel
    clear HR0 HL0 HB0
    by_cases hlt : k < n
    · have hkl : k < l.length := by rw [HL.out]; exact hlt
      have hki : (k : Int) < (n : Int) := by omega
      have hkz : (0 : Int) ≤ (k : Int) := by omega
      obtain ⟨ad, rfl, _⟩ := HA.out (by rw [rcells_length]; omega)
      obtain ⟨f0, f1, f2, f3⟩ := (HA.out.bel (by rw [HGG.out]; exact HB.out)).four k hkl
      have hat : ((l[k].at_ : Nat) : Int) ≤ 4294967295 := by have := HW.out l[k] (List.getElem_mem hkl); omega
      have CH := Lib.hid (fun w => tholds_q l[k] a w hat ha)
      have hs := find_succ l a k hkl
      rw [HF.out] at hs
      have hbz : g ≤ wr.heap.size := by have := HB.out.size; have h := HGG.out; omega
      obtain ⟨H, hH⟩ : ∃ H, wr.heap.size = H := ⟨_, rfl⟩
      have HX : Hid (Blk H (rlc l[k]) 46 (wr.alloc (.cells #[.int .u32 (l[k].at_ : Int), .int .i64 l[k].len, .int .i64 l[k].act, .int .i64 l[k].nxt] 46))) := by subst hH; exact Blk.new wr _ _
      have HR1 : Hid (Blk g (rcs 0 0 0 0) 46 (wr.alloc (.cells #[.int .u32 (l[k].at_ : Int), .int .i64 l[k].len, .int .i64 l[k].act, .int .i64 l[k].nxt] 46))) := HR.out.bel ((Below.refl _ _).alloc (Nat.le_refl _) _)
      have HQ1 : Hid (Blk (g + 1) (rlc (foundR o)) 46 (wr.alloc (.cells #[.int .u32 (l[k].at_ : Int), .int .i64 l[k].len, .int .i64 l[k].act, .int .i64 l[k].nxt] 46))) := HQ.out.bel ((Below.refl _ _).alloc (Nat.le_refl _) _)
      have HB1 : Hid (Below g w (wr.alloc (.cells #[.int .u32 (l[k].at_ : Int), .int .i64 l[k].len, .int .i64 l[k].act, .int .i64 l[k].nxt] 46))) := HB.out.alloc hbz _
      clear HR HQ HB HF
      go_upto_region 6 with fail
      clear f0 f1 f2 f3 hH hbz
      generalize wr.alloc (.cells #[.int .u32 (l[k].at_ : Int), .int .i64 l[k].len, .int .i64 l[k].act, .int .i64 l[k].nxt] 46) = V at *
      have v0 : V.cell? ⟨H, 0, none⟩ = some (.int .u32 (l[k].at_ : Int)) := Joins.cell_of_block HX.out 0
      have v1 : V.cell? ⟨H, 1, none⟩ = some (.int .i64 l[k].len) := Joins.cell_of_block HX.out 1
      cases hh : holdR l[k] a with
      | false =>
        have HN : Hid (findF (l.take (k + 1)) a = o) := by rw [hs, step_not hh]; exact rfl
        rw [hh] at CH
        clear hh hs
        go_wp2_with fail
        refine (CH.out _).mono ?_
        rintro e1 w2 ⟨rfl, hb⟩
        have HX2 := HX.out.bel hb
        have HR2 := HR1.out.bel hb
        have HQ2 := HQ1.out.bel hb
        have HB2 := Lib.hid (HB1.out.trans (hb.mono (by have := HB1.out.size; have h := HGG.out; omega)))
        clear hb HX HR1 HQ1 HB1 v0 v1
        go_wp2_with fail
        go_roundw
        case rel => exact ⟨k + 1, o, by omega, by go_num, rfl, HN, HR2, HQ2, HB2⟩
        case measure => simp [intOf]; omega
      | true =>
        cases o with
        | none =>
          have HN : Hid (findF (l.take (k + 1)) a = some l[k]) := by rw [hs, step_first hh]; exact rfl
          rw [hh] at CH
          clear hh hs
          go_wp2_with fail
          refine (CH.out _).mono ?_
          rintro e1 w2 ⟨rfl, hb⟩
          have HX2 := HX.out.bel hb
          have HR2 := HR1.out.bel hb
          have HQ2 := HQ1.out.bel hb
          have HB2 := Lib.hid (HB1.out.trans (hb.mono (by have := HB1.out.size; have h := HGG.out; omega)))
          clear hb HX HR1 HQ1 HB1 v0 v1
          go_wp2_with (first | (refine wpList_load_row rfl 46 (.tmp 9) rfl H rfl 46 (rlc l[k]) (0, 0) _ HX2 Try.underlying46 rfl rfl ?_) | (refine wpList_store_row rfl 46 (.tmp 6) (.tmp 33) rfl (g + 1) (rlc l[k]) rfl rfl 46 (rlc (foundR none)) HQ2 rfl rfl (by simp [rlc, rcs, Value.oneCell']) ?_))
          have HQ3 : Hid (Blk (g + 1) (rlc (foundR (some l[k]))) 46 (w2.setRow (g + 1) (rlc l[k]))) := setRow_heap _ _ _ _ _ _ HQ2
          have HR3 : Hid (Blk g (rcs 0 0 0 0) 46 (w2.setRow (g + 1) (rlc l[k]))) := (setRow_other _ _ _ _ (by omega)).trans HR2
          have HB3 : Hid (Below g w (w2.setRow (g + 1) (rlc l[k]))) := below_setRow HB2.out (by omega) _
          clear HX2 HR2 HQ2 HB2
          go_roundw
          case rel => exact ⟨k + 1, some l[k], by omega, by go_num, rfl, HN, HR3, HQ3, HB3⟩
          case measure => simp [intOf]; omega
        | some f =>
          by_cases hlen : f.len < l[k].len
          · have HN : Hid (findF (l.take (k + 1)) a = some l[k]) := by rw [hs, step_longer hh hlen]; exact rfl
            have hd1 : decide (f.len < l[k].len) = true := decide_eq_true hlen
            have hd2 : decide (l[k].len > f.len) = true := hd1
            rw [hh] at CH
            clear hh hs
            go_wp2_with fail
            refine (CH.out _).mono ?_
            rintro e1 w2 ⟨rfl, hb⟩
            have HX2 := HX.out.bel hb
            have HR2 := HR1.out.bel hb
            have HQ2 := HQ1.out.bel hb
            have HB2 := Lib.hid (HB1.out.trans (hb.mono (by have := HB1.out.size; have h := HGG.out; omega)))
            clear hb HX HR1 HQ1 HB1 v0 v1
            have q1 : w2.cell? ⟨g + 1, 1, none⟩ = some (.int .i64 f.len) := Joins.cell_of_block HQ2 1
            have x1 : w2.cell? ⟨H, 1, none⟩ = some (.int .i64 l[k].len) := Joins.cell_of_block HX2 1
            go_wp2_with (first | (refine wpList_load_row rfl 46 (.tmp 9) rfl H rfl 46 (rlc l[k]) (0, 0) _ HX2 Try.underlying46 rfl rfl ?_) | (refine wpList_store_row rfl 46 (.tmp 6) (.tmp 33) rfl (g + 1) (rlc l[k]) rfl rfl 46 (rlc (foundR (some f))) HQ2 rfl rfl (by simp [rlc, rcs, Value.oneCell']) ?_))
            have HQ3 : Hid (Blk (g + 1) (rlc (foundR (some l[k]))) 46 (w2.setRow (g + 1) (rlc l[k]))) := setRow_heap _ _ _ _ _ _ HQ2
            have HR3 : Hid (Blk g (rcs 0 0 0 0) 46 (w2.setRow (g + 1) (rlc l[k]))) := (setRow_other _ _ _ _ (by omega)).trans HR2
            have HB3 : Hid (Below g w (w2.setRow (g + 1) (rlc l[k]))) := below_setRow HB2.out (by omega) _
            clear HX2 HR2 HQ2 HB2
            go_roundw
            case rel => exact ⟨k + 1, some l[k], by omega, by go_num, rfl, HN, HR3, HQ3, HB3⟩
            case measure => simp [intOf]; omega
          · have HN : Hid (findF (l.take (k + 1)) a = some f) := by rw [hs, step_shorter hlen]; exact rfl
            have hd1 : decide (f.len < l[k].len) = false := decide_eq_false hlen
            have hd2 : decide (l[k].len > f.len) = false := hd1
            rw [hh] at CH
            clear hh hs
            go_wp2_with fail
            refine (CH.out _).mono ?_
            rintro e1 w2 ⟨rfl, hb⟩
            have HX2 := HX.out.bel hb
            have HR2 := HR1.out.bel hb
            have HQ2 := HQ1.out.bel hb
            have HB2 := Lib.hid (HB1.out.trans (hb.mono (by have := HB1.out.size; have h := HGG.out; omega)))
            clear hb HX HR1 HQ1 HB1 v0 v1
            have q1 : w2.cell? ⟨g + 1, 1, none⟩ = some (.int .i64 f.len) := Joins.cell_of_block HQ2 1
            have x1 : w2.cell? ⟨H, 1, none⟩ = some (.int .i64 l[k].len) := Joins.cell_of_block HX2 1
            go_wp2_with fail
            go_roundw
            case rel => exact ⟨k + 1, some f, by omega, by go_num, rfl, HN, HR2, HQ2, HB2⟩
            case measure => simp [intOf]; omega
    · obtain rfl : k = n := by omega
      have hall : l.take k = l := List.take_of_length_le (by rw [HL.out]; exact Nat.le_refl _)
      have hf := HF.out
      rw [hall] at hf
      have HE := Lib.hid hf
      have HRR := HR.out
      have HQQ := HQ.out
      clear hf hall hlt hk HF
      go_wp2_with (first | (refine wpList_load_row rfl 46 (.tmp 6) rfl (g + 1) rfl 46 (rlc (foundR o)) (0, 0) _ HQQ Try.underlying46 rfl rfl ?_) | (refine wpList_store_row rfl 46 (.tmp 4) (.tmp 35) rfl g (rlc (foundR o)) rfl rfl 46 (rcs 0 0 0 0) HRR rfl rfl (by simp [rlc, rcs, Value.oneCell']) ?_))
      (try simp only [Exit.inBlock, Exit.then])
      refine bodyPost_ret (results_rule rfl _ _ g (foundR o).at_ (foundR o).len (foundR o).act (foundR o).nxt rfl (setRow_heap _ _ _ _ _ _ HRR)) rfl ⟨by rw [HE.out]; rfl, below_setRow (by rw [HGG.out]; exact HB.out) (by rw [HGG.out]; exact Nat.le_refl _) _⟩
theorem tfind_some (v : Value) (l : List Rl) (a : Nat) (r : Rl) (w : World) (hv : IsR w v l) (ha : (a : Int) ≤ 4294967295) (hwf : ∀ r ∈ l, r.at_ ≤ 4294967295) (h : findF l a = some r) :
    Calls Try.prog 33 #[v, .int .u32 (a : Int)] w fun e w' => e = .returned (.tuple #[.agg #[.int .u32 (r.at_ : Int), .int .i64 r.len, .int .i64 r.act, .int .i64 r.nxt], .bool true]) ∧ Below w.heap.size w w' := by
  have c := tfind_any v l a w hv ha hwf
  rw [h] at c
  exact c
theorem tfind_none (v : Value) (l : List Rl) (a : Nat) (w : World) (hv : IsR w v l) (ha : (a : Int) ≤ 4294967295) (hwf : ∀ r ∈ l, r.at_ ≤ 4294967295) (h : findF l a = none) :
    Calls Try.prog 33 #[v, .int .u32 (a : Int)] w fun e w' => e = .returned (.tuple #[.agg #[.int .u32 0, .int .i64 0, .int .i64 0, .int .i64 0], .bool false]) ∧ Below w.heap.size w w' := by
  have c := tfind_any v l a w hv ha hwf
  rw [h] at c
  exact c
theorem tnext_any (v : Value) (l : List Rl) (a : Nat) (w : World) (hv : IsR w v l) (ha : (a : Int) ≤ 4294967295) (hwf : ∀ r ∈ l, r.at_ ≤ 4294967295) :
    Calls Try.prog 24 #[v, .int .u32 (a : Int)] w fun e w' => e = .returned (.tuple #[.int .i64 (nextT (findF l a)).1, .bool (nextT (findF l a)).2]) ∧ Below w.heap.size w w' := by
  cases hf : findF l a with
  | none =>
    have C := Lib.hid (tfind_none v l a w hv ha hwf hf)
    clear hf hv hwf
    go_enter Try.func24, Try.ntmps24
    go_wp2_with fail
    refine C.out.mono ?_
    rintro e1 w1 ⟨rfl, hb⟩
    have HB := Lib.hid hb
    clear hb
    go_wp2_with fail
    go_ret2
    exact ⟨rfl, HB.out.alloc HB.out.size _⟩
  | some r =>
    have C := Lib.hid (tfind_some v l a r w hv ha hwf hf)
    clear hf hv hwf
    by_cases h1 : r.act = 1
    · have HE : Hid (nextT (some r) = (r.nxt, true)) := by show _ = _; simp [nextT, h1]
      rw [h1] at C
      clear h1
      go_enter Try.func24, Try.ntmps24
      go_wp2_with fail
      refine C.out.mono ?_
      rintro e1 w1 ⟨rfl, hb⟩
      have HB := Lib.hid hb
      clear hb
      go_wp2_with fail
      go_ret2
      exact ⟨by rw [HE.out]; rfl, HB.out.alloc HB.out.size _⟩
    · have HE : Hid (nextT (some r) = (0, false)) := by show _ = _; simp [nextT, h1]
      have t1 : (r.act != 1) = true := by rw [bne_iff_ne]; exact h1
      clear h1
      go_enter Try.func24, Try.ntmps24
      go_wp2_with fail
      refine C.out.mono ?_
      rintro e1 w1 ⟨rfl, hb⟩
      have HB := Lib.hid hb
      clear hb
      go_wp2_with fail
      go_ret2
      exact ⟨by rw [HE.out]; rfl, HB.out.alloc HB.out.size _⟩
set_option maxHeartbeats 4000000 in
theorem tmay_any (v : Value) (l : List Rl) (m : Int) (w : World) (hv : IsR w v l) (hwf : ∀ r ∈ l, r.at_ ≤ 4294967295) :
    Calls Try.prog 27 #[v, .int .i64 m] w fun e w' => e = .returned (.int .i64 (mayT l m)) ∧ Below w.heap.size w w' := by
  obtain ⟨A, n, c, rfl, hn, hc, hl, hA⟩ := hv
  have HA := Lib.hid hA
  have HL := Lib.hid hl
  have HW := Lib.hid hwf
  have hnm : (n : Int) ≤ 9223372036854775807 := by unfold maxLen at hc; omega
  clear hA hl hwf hn hc
  go_enter Try.func27, Try.ntmps27
  go_wp2
  go_step3
  go_wp2
  go_step3
  go_wp2
  go_loopw [5, 10] (fun e i wr => ∃ k : Nat, k ≤ n ∧ e = .int .i64 0 ∧ i = .int .i64 k ∧ Hid (Below w.heap.size w wr) ∧ Hid (mayT l m = mayGo (prevOf l k) (l.drop k) m)) (fun _ i _ => n - (intOf i).toNat)
  case atStart => exact ⟨0, by omega, rfl, rfl, Below.refl _ _, by show _ = _; rw [prev_zero]; rfl⟩
  case round =>
    obtain ⟨k, hk, rfl, rfl, HB, HM⟩ := hrel
    by_cases hlt : k < n
    · have hkl : k < l.length := by rw [HL.out]; exact hlt
      have hki : (k : Int) < (n : Int) := by omega
      obtain ⟨ad, rfl, _⟩ := HA.out (by rw [rcells_length]; omega)
      have hat : ((l[k].at_ : Nat) : Int) ≤ 4294967295 := by have := HW.out l[k] (List.getElem_mem hkl); omega
      have C1 := Lib.hid (fun w => mayr_any l[k].at_ l[k].len l[k].act l[k].nxt m w hat)
      obtain ⟨f0, f1, f2, f3⟩ := (HA.out.bel HB.out).four k hkl
      obtain ⟨H, hH⟩ : ∃ H, wr.heap.size = H := ⟨_, rfl⟩
      have HX : Hid (Blk H (rlc l[k]) 46 (wr.alloc (.cells #[.int .u32 (l[k].at_ : Int), .int .i64 l[k].len, .int .i64 l[k].act, .int .i64 l[k].nxt] 46))) := by subst hH; exact Blk.new wr _ _
      have HBV : Hid (Below w.heap.size w (wr.alloc (.cells #[.int .u32 (l[k].at_ : Int), .int .i64 l[k].len, .int .i64 l[k].act, .int .i64 l[k].nxt] 46))) := HB.out.alloc HB.out.size _
      go_upto_region 5 with fail
      clear f0 f1 f2 f3 hH HB
      generalize wr.alloc (.cells #[.int .u32 (l[k].at_ : Int), .int .i64 l[k].len, .int .i64 l[k].act, .int .i64 l[k].nxt] 46) = V at *
      have v0 : V.cell? ⟨H, 0, none⟩ = some (.int .u32 (l[k].at_ : Int)) := Joins.cell_of_block HX.out 0
      have v1 : V.cell? ⟨H, 1, none⟩ = some (.int .i64 l[k].len) := Joins.cell_of_block HX.out 1
      have v2 : V.cell? ⟨H, 2, none⟩ = some (.int .i64 l[k].act) := Joins.cell_of_block HX.out 2
      have v3 : V.cell? ⟨H, 3, none⟩ = some (.int .i64 l[k].nxt) := Joins.cell_of_block HX.out 3
      by_cases he : mayRl l[k] m = 0
      · have hb2 := mayT_at l k m hkl
        rw [show mayR l[k].at_ l[k].len l[k].act l[k].nxt m = 0 from he] at C1
        rcases Nat.eq_zero_or_pos k with hk0 | hk0
        · have HN : Hid (mayT l m = mayGo (prevOf l (k + 1)) (l.drop (k + 1)) m) := by
            subst hk0
            exact HM.out.trans (mayT_first l m hkl he)
          have hz : (k : Int) ≤ 0 := by omega
          have hd1 : decide ((0 : Int) < (k : Int)) = false := decide_eq_false (by omega)
          have hd2 : decide (0 < k) = false := decide_eq_false (by omega)
          have hd3 : decide ((k : Int) > 0) = false := hd1
          clear hk0
          clear he hb2
          go_wp2_with fail
          refine (C1.out _).mono ?_
          rintro e1 w1 ⟨rfl, hb⟩
          have HB1 := Lib.hid (HBV.out.trans (hb.mono HBV.out.size))
          clear hb v0 v1 v2 v3 HX
          go_upto_region 7 with fail
          go_cut [21] (fun t wx => t = .bool false ∧ Hid (Below w.heap.size w wx))
          case first =>
            go_quiet (fail)
            go_wp2_with fail
            go_meet
            exact ⟨rfl, drewN_below HB1.out _⟩
          case rest =>
            obtain ⟨rfl, HBc⟩ := hcut
            go_wp2_with fail
            go_roundw
            case rel => exact ⟨k + 1, by omega, rfl, by go_num, HBc, HN⟩
            case measure => simp [intOf]; omega
        · obtain ⟨q, hq⟩ : ∃ q, k = q + 1 := ⟨k - 1, by omega⟩
          have hkp : (0 : Int) < (k : Int) := by omega
          have hkz : (0 : Int) ≤ (k : Int) := by omega
          have hd1 : decide ((0 : Int) < (k : Int)) = true := decide_eq_true (by omega)
          have hd2 : decide (0 < k) = true := decide_eq_true (by omega)
          have hd3 : decide ((k : Int) > 0) = true := hd1
          have hql : q < l.length := by omega
          have hq0 : (0 : Int) ≤ (q : Int) := by omega
          have hq1 : (q : Int) < (n : Int) := by omega
          have hsub : IntKind.i64.wrap ((k : Int) - 1) = (q : Int) := by rw [IntKind.wrap_i64]; omega
          have HG : Hid (∀ wx, Below w.heap.size w wx → Four wx (ad.add (q * 4)) l[q]) := fun wx hx => (HA.out.bel hx).four q hql
          have C2 := Lib.hid (fun w => compr_any l[k].at_ l[q].at_ l[k].len l[k].act l[k].nxt l[q].len l[q].act l[q].nxt w)
          have hor : (cmpR l[k] l[q] = 1 ∧ Hid (mayT l m = mayGo (prevOf l (k + 1)) (l.drop (k + 1)) m)) ∨ (cmpR l[k] l[q] ≠ 1 ∧ Hid (mayT l m = 11)) := by
            subst hq
            by_cases hc : cmpR l[q + 1] l[q] = 1
            · exact .inl ⟨hc, HM.out.trans (mayT_next l q m hkl he hc)⟩
            · exact .inr ⟨hc, HM.out.trans (mayT_order l q m hkl he hc)⟩
          rw [show cmpI l[k].at_ l[k].len l[q].at_ l[q].len = cmpR l[k] l[q] from rfl] at C2
          clear hq hk0
          generalize cmpR l[k] l[q] = cr at *
          clear he hb2 HM
          go_wp2_with fail
          refine (C1.out _).mono ?_
          rintro e1 w1 ⟨rfl, hb⟩
          have HB1 := Lib.hid (HBV.out.trans (hb.mono HBV.out.size))
          have HXX : Hid (∀ wx, Below w1.heap.size w1 wx → Blk H (rlc l[k]) 46 wx) := by
            have h := HX.out.bel hb
            exact fun wx hx => h.bel hx
          clear hb v0 v1 v2 v3 HX
          have HHF : Hid (∀ wx, Below w1.heap.size w1 wx → (wx.cell? ⟨H, 0, none⟩ = some (.int .u32 (l[k].at_ : Int)) ∧ wx.cell? ⟨H, 1, none⟩ = some (.int .i64 l[k].len) ∧ wx.cell? ⟨H, 2, none⟩ = some (.int .i64 l[k].act) ∧ wx.cell? ⟨H, 3, none⟩ = some (.int .i64 l[k].nxt))) := fun wx hx =>
            ⟨Joins.cell_of_block (HXX.out wx hx) 0, Joins.cell_of_block (HXX.out wx hx) 1, Joins.cell_of_block (HXX.out wx hx) 2, Joins.cell_of_block (HXX.out wx hx) 3⟩
          obtain ⟨v0, v1, v2, v3⟩ := HHF.out w1 (Below.refl _ _)
          obtain ⟨g0, g1, g2, g3⟩ := HG.out w1 HB1.out
          have HD := Lib.hid (Below.refl w1.heap.size w1).drew
          go_upto_region 7 with fail
          go_cut [21] (fun t wx => t = .bool (cr != 1) ∧ Hid (Below w1.heap.size w1 wx))
          case first =>
            go_region_held3 (fun w' => (w'.cell? ⟨H, 0, none⟩ = some (.int .u32 (l[k].at_ : Int)) ∧ w'.cell? ⟨H, 1, none⟩ = some (.int .i64 l[k].len) ∧ w'.cell? ⟨H, 2, none⟩ = some (.int .i64 l[k].act) ∧ w'.cell? ⟨H, 3, none⟩ = some (.int .i64 l[k].nxt)) ∧ (w'.cell? (ad.add (q * 4)) = some (.int .u32 (l[q].at_ : Int)) ∧ w'.cell? ⟨(ad.add (q * 4)).block, (ad.add (q * 4)).off + 1, none⟩ = some (.int .i64 l[q].len) ∧ w'.cell? ⟨(ad.add (q * 4)).block, (ad.add (q * 4)).off + 2, none⟩ = some (.int .i64 l[q].act) ∧ w'.cell? ⟨(ad.add (q * 4)).block, (ad.add (q * 4)).off + 3, none⟩ = some (.int .i64 l[q].nxt)))
              (first | go_keep | exact ⟨HHF.out _ D1.out, HG.out _ (HB1.out.trans (D1.out.mono HB1.out.size))⟩)
              (first
                | (go_simp; go_at_call 36; refine (C2.out _).mono ?_; rintro e w2 ⟨rfl, hb2⟩; have D1 := Lib.hid (HD.out.trans (hb2.mono HD.out.size)); clear hb2))
            all_goals
              go_wp2_with fail
              go_meet
              exact ⟨rfl, D1⟩
          case rest =>
            obtain ⟨rfl, HBc⟩ := hcut
            have HB2 := Lib.hid (HB1.out.trans (HBc.out.mono HB1.out.size))
            clear HBc HD C1 C2 v0 v1 v2 v3 g0 g1 g2 g3
            rcases hor with ⟨rfl, HN⟩ | ⟨hc, HN⟩
            · go_wp2_with fail
              go_roundw
              case rel => exact ⟨k + 1, by omega, rfl, by go_num, HB2, HN⟩
              case measure => simp [intOf]; omega
            · have t1 : (cr != 1) = true := by rw [bne_iff_ne]; exact hc
              go_wp2_with fail
              (try rw [Exit.noGoto_ret])
              go_ret
              exact ⟨by rw [HN.out]; rfl, HB2.out⟩
      · have HE : Hid (mayT l m = mayRl l[k] m) := HM.out.trans (mayT_bad l k m hkl he)
        rw [show mayR l[k].at_ l[k].len l[k].act l[k].nxt m = mayRl l[k] m from rfl] at C1
        have t1 : (mayRl l[k] m != 0) = true := by rw [bne_iff_ne]; exact he
        generalize mayRl l[k] m = er at *
        clear he HM
        go_wp2_with fail
        refine (C1.out _).mono ?_
        rintro e1 w1 ⟨rfl, hb⟩
        have HB1 := Lib.hid (HBV.out.trans (hb.mono HBV.out.size))
        clear hb v0 v1 v2 v3 HX
        go_wp2_with fail
        (try rw [Exit.noGoto_ret])
        go_ret
        exact ⟨by rw [HE.out]; rfl, HB1.out⟩
    · obtain rfl : k = n := by omega
      have HE : Hid (mayT l m = 0) := by
        have h := mayT_end l m
        rw [HL.out] at h
        exact HM.out.trans h
      go_wp2_with fail
      (try rw [Exit.noGoto_ret])
      go_ret
      exact ⟨by rw [HE.out]; rfl, HB.out⟩
end Go.Proofs.Ytpfpkghihpcbkaa
