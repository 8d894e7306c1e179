/- Contracts of package theseusref08: Find, Next. -/
import Derived.Test.YtpfpkghihpcbkaaTblKit
import Derived.Test.YtpfpkghihpcbkaaRef06h
import Derived.Test.YtpfpkghihpcbkaaBlk
import Derived.Deep.DeepCutAuto
import Derived.BigQuiet
import Derived.Laws.CopyOwn
namespace Go.Proofs.Ytpfpkghihpcbkaa
open Go.RowKit
set_option linter.unusedVariables false
set_option linter.unusedSimpArgs false

theorem Blk.drewN {g : Nat} {cs : Array Value} {t : TypeId} {w : World} (h : Blk g cs t w) (k : Nat) : Blk g cs t (w.drewN k) := h
theorem rholds_q (r : Rl) (a : Nat) (w : World) (q : Nat) (hr : (r.at_ : Int) ≤ 4294967295) (ha : (a : Int) ≤ 4294967295) :
    Calls Try.prog 47 #[.int .u32 (r.at_ : Int), .int .i64 r.len, .int .u32 (a : Int)] (w.drewN q) fun e w' => e = .returned (.bool (holdR r a)) ∧ w' = w.drewN q :=
  (rholds_any r.at_ a r.len (w.drewN q) hr ha).mono fun e w' ⟨h1, h2⟩ => ⟨h1, h2.symm⟩
/-- the place of what has been found: -1, or that of a rule -/
def At (l : List Rl) (a k : Nat) (x : Value) : Prop := (x = .int .i64 (-1) ∧ findF (l.take k) a = none) ∨ ∃ j, ∃ h : j < l.length, j < k ∧ x = .int .i64 (j : Int) ∧ findF (l.take k) a = some l[j]
set_option maxHeartbeats 4000000 in
theorem rfindT_any (v : Value) (l : List Rl) (a : Nat) (w : World) (hv : IsR w v l) (ha : (a : Int) ≤ 4294967295) (hwf : ∀ r ∈ l, r.at_ ≤ 4294967295) :
    Calls Try.prog 39 #[v, .int .u32 (a : Int)] w fun e w' => e = .returned (.tuple #[.agg (rcs (foundR (findF l a)).at_ (foundR (findF l a)).len (foundR (findF l a)).act (foundR (findF l a)).nxt), .bool (findF l a).isSome]) ∧ Below w.heap.size w w' := by
  obtain ⟨A, n, c, rfl, hn, hc, hl, hA⟩ := hv
  have HA := Lib.hid hA
  have HL := Lib.hid hl
  have HW := Lib.hid hwf
  have hnm : (n : Int) ≤ 9223372036854775807 := by unfold maxLen at hc; omega
  clear hA hl hwf hn hc
  obtain ⟨g, hg⟩ : ∃ g, w.heap.size = g := ⟨_, rfl⟩
  have HGG := Lib.hid hg
  have HR0 : Hid (Blk g (rcs 0 0 0 0) 46 (w.alloc (.cells #[.int .u32 0, .int .i64 0, .int .i64 0, .int .i64 0] 46))) := by
    subst hg
    exact Blk.new w _ _
  have HB0 : Hid (Below g w (w.alloc (.cells #[.int .u32 0, .int .i64 0, .int .i64 0, .int .i64 0] 46))) := by
    subst hg
    exact (Below.refl w.heap.size w).alloc (Nat.le_refl _) _
  go_enter Try.func39, Try.ntmps39
  go_wp2
  clear hg
  generalize w.alloc (.cells #[.int .u32 0, .int .i64 0, .int .i64 0, .int .i64 0] 46) = w1 at *
  go_loopw [6, 7] (fun b i wr => ∃ k : Nat, k ≤ n ∧ i = .int .i64 k ∧ Hid (At l a k b) ∧ Hid (Blk g (rcs 0 0 0 0) 46 wr) ∧ Hid (Below g w wr)) (fun _ i _ => n - (intOf i).toNat)
  case atStart => exact ⟨0, by omega, rfl, .inl ⟨rfl, rfl⟩, HR0, HB0⟩
  case round =>
    obtain ⟨k, hk, rfl, HAt, HR, HB⟩ := hrel
    clear HR0 HB0
    by_cases hlt : k < n
    · have hkl : k < l.length := by rw [HL.out]; exact hlt
      have hki : (k : Int) < (n : Int) := by omega
      have hkz : (0 : Int) ≤ (k : Int) := by omega
      obtain ⟨ad, rfl, _⟩ := HA.out (by rw [rcells_length]; omega)
      have HF : Hid (∀ k (h : k < l.length), Four wr (ad.add (k * 4)) l[k]) := fun k h => (HA.out.bel (by rw [HGG.out]; exact HB.out)).four k h
      have hat : ((l[k].at_ : Nat) : Int) ≤ 4294967295 := by have := HW.out l[k] (List.getElem_mem hkl); omega
      have CH := Lib.hid (fun q => rholds_q l[k] a wr q hat ha)
      have hs := find_succ l a k hkl
      obtain ⟨f0, f1, f2, f3⟩ := HF.out k hkl
      cases hh : holdR l[k] a with
      | false =>
        have HN : Hid (At l a (k + 1) u6) := by
          rw [step_not hh] at hs
          rcases HAt.out with ⟨h1, h2⟩ | ⟨j, h0, h1, h2, h3⟩
          · exact .inl ⟨h1, hs.trans h2⟩
          · exact .inr ⟨j, h0, by omega, h2, hs.trans h3⟩
        rw [hh] at CH
        clear hh hs HAt
        go_upto_region 5 with fail
        go_cut [42] (fun t wx => t = .bool false ∧ Hid (Blk g (rcs 0 0 0 0) 46 wx) ∧ Hid (Below g w wx))
        case first =>
          go_quiet ((go_at_call 47; with_reducible exact Calls.quiet_of_same (CH.out _)))
          go_wp2_with fail
          go_meet
          exact ⟨rfl, HR.out.drewN _, drewN_below HB.out _⟩
        case rest =>
          obtain ⟨rfl, HRc, HBc⟩ := hcut
          go_wp2_with fail
          go_roundw
          case rel => exact ⟨k + 1, by omega, by go_num, HN, HRc, HBc⟩
          case measure => simp [intOf]; omega
      | true =>
        rw [hh] at CH
        rcases HAt.out with ⟨rfl, h2⟩ | ⟨j, h0, h1, rfl, h3⟩
        · have HN : Hid (At l a (k + 1) (.int .i64 (k : Int))) := .inr ⟨k, hkl, by omega, rfl, by rw [hs, h2, step_first hh]⟩
          clear hh hs HAt h2
          go_upto_region 5 with fail
          go_cut [42] (fun t wx => t = .bool true ∧ Hid (Blk g (rcs 0 0 0 0) 46 wx) ∧ Hid (Below g w wx))
          case first =>
            go_quiet ((go_at_call 47; with_reducible exact Calls.quiet_of_same (CH.out _)))
            go_wp2_with fail
            go_meet
            exact ⟨rfl, HR.out.drewN _, drewN_below HB.out _⟩
          case rest =>
            obtain ⟨rfl, HRc, HBc⟩ := hcut
            clear HR HB
            go_wp2_with fail
            go_roundw
            case rel => exact ⟨k + 1, by omega, by go_num, HN, HRc, HBc⟩
            case measure => simp [intOf]; omega
        · obtain ⟨g0, g1, g2, g3⟩ := HF.out j h0
          have hjz : (0 : Int) ≤ (j : Int) := by omega
          have hjn : (j : Int) < (n : Int) := by omega
          have hjd : decide ((j : Int) < 0) = false := decide_eq_false (by omega)
          by_cases hlen : l[j].len < l[k].len
          · have HN : Hid (At l a (k + 1) (.int .i64 (k : Int))) := .inr ⟨k, hkl, by omega, rfl, by rw [hs, h3, step_longer hh hlen]⟩
            have hd1 : decide (l[j].len < l[k].len) = true := decide_eq_true hlen
            have hd2 : decide (l[k].len > l[j].len) = true := hd1
            clear hh hs HAt h3
            go_upto_region 5 with fail
            go_cut [42] (fun t wx => t = .bool true ∧ Hid (Blk g (rcs 0 0 0 0) 46 wx) ∧ Hid (Below g w wx))
            case first =>
              go_quiet ((go_at_call 47; with_reducible exact Calls.quiet_of_same (CH.out _)))
              go_wp2_with fail
              go_meet
              exact ⟨rfl, HR.out.drewN _, drewN_below HB.out _⟩
            case rest =>
              obtain ⟨rfl, HRc, HBc⟩ := hcut
              clear HR HB
              go_wp2_with fail
              go_roundw
              case rel => exact ⟨k + 1, by omega, by go_num, HN, HRc, HBc⟩
              case measure => simp [intOf]; omega
          · have HN : Hid (At l a (k + 1) (.int .i64 (j : Int))) := .inr ⟨j, h0, by omega, rfl, by rw [hs, h3, step_shorter hlen]⟩
            have hd1 : decide (l[j].len < l[k].len) = false := decide_eq_false hlen
            have hd2 : decide (l[k].len > l[j].len) = false := hd1
            clear hh hs HAt h3
            go_upto_region 5 with fail
            go_cut [42] (fun t wx => t = .bool false ∧ Hid (Blk g (rcs 0 0 0 0) 46 wx) ∧ Hid (Below g w wx))
            case first =>
              go_quiet ((go_at_call 47; with_reducible exact Calls.quiet_of_same (CH.out _)))
              go_wp2_with fail
              go_meet
              exact ⟨rfl, HR.out.drewN _, drewN_below HB.out _⟩
            case rest =>
              obtain ⟨rfl, HRc, HBc⟩ := hcut
              clear HR HB
              go_wp2_with fail
              go_roundw
              case rel => exact ⟨k + 1, by omega, by go_num, HN, HRc, HBc⟩
              case measure => simp [intOf]; omega
    · obtain rfl : k = n := by omega
      have hall : l.take k = l := List.take_of_length_le (by rw [HL.out]; exact Nat.le_refl _)
      rcases HAt.out with ⟨rfl, h2⟩ | ⟨j, h0, h1, rfl, h3⟩
      · rw [hall] at h2
        have HE : Hid (findF l a = none) := h2
        have HRR := HR.out
        clear HAt hall h2 hlt hk
        go_wp2_with (first | (refine wpList_store_row rfl 46 (.tmp 4) (.tmp 46) rfl g (rcs 0 0 0 0) rfl rfl 46 (rcs 0 0 0 0) HRR rfl rfl (by simp [rcs, Value.oneCell']) ?_))
        (try simp only [Exit.inBlock, Exit.then])
        refine bodyPost_ret (results_rule rfl _ _ g 0 0 0 0 rfl (setRow_heap _ _ _ _ _ _ HRR)) rfl ⟨by rw [HE.out]; rfl, below_setRow (by rw [HGG.out]; exact HB.out) (by rw [HGG.out]; exact Nat.le_refl _) _⟩
      · rw [hall] at h3
        have HE : Hid (findF l a = some l[j]) := h3
        obtain ⟨ad, rfl, _⟩ := HA.out (by rw [rcells_length]; omega)
        have hjz : (0 : Int) ≤ (j : Int) := by omega
        have hjn : (j : Int) < (k : Int) := by omega
        have hjd : decide ((j : Int) < 0) = false := decide_eq_false (by omega)
        obtain ⟨g0, g1, g2, g3⟩ := (HA.out.bel (by rw [HGG.out]; exact HB.out)).four j h0
        have HRR := HR.out
        clear HAt hall h3 hlt hk
        go_wp2_with (first | (refine wpList_store_row rfl 46 (.tmp 4) (.tmp 50) rfl g (rcs l[j].at_ l[j].len l[j].act l[j].nxt) rfl rfl 46 (rcs 0 0 0 0) HRR rfl rfl (by simp [rcs, Value.oneCell']) ?_))
        (try simp only [Exit.inBlock, Exit.then])
        refine bodyPost_ret (results_rule rfl _ _ g l[j].at_ l[j].len l[j].act l[j].nxt rfl (setRow_heap _ _ _ _ _ _ HRR)) rfl ⟨by rw [HE.out]; rfl, below_setRow (by rw [HGG.out]; exact HB.out) (by rw [HGG.out]; exact Nat.le_refl _) _⟩
/-- Find's answer, its cells written out -/
theorem rfindT_some (v : Value) (l : List Rl) (a : Nat) (r : Rl) (w : World) (hv : IsR w v l) (ha : (a : Int) ≤ 4294967295) (hwf : ∀ r ∈ l, r.at_ ≤ 4294967295) (h : findF l a = some r) :
    Calls Try.prog 39 #[v, .int .u32 (a : Int)] w fun e w' => e = .returned (.tuple #[.agg #[.int .u32 (r.at_ : Int), .int .i64 r.len, .int .i64 r.act, .int .i64 r.nxt], .bool true]) ∧ Below w.heap.size w w' := by
  have c := rfindT_any v l a w hv ha hwf
  rw [h] at c
  exact c
theorem rfindT_none (v : Value) (l : List Rl) (a : Nat) (w : World) (hv : IsR w v l) (ha : (a : Int) ≤ 4294967295) (hwf : ∀ r ∈ l, r.at_ ≤ 4294967295) (h : findF l a = none) :
    Calls Try.prog 39 #[v, .int .u32 (a : Int)] w fun e w' => e = .returned (.tuple #[.agg #[.int .u32 0, .int .i64 0, .int .i64 0, .int .i64 0], .bool false]) ∧ Below w.heap.size w w' := by
  have c := rfindT_any v l a w hv ha hwf
  rw [h] at c
  exact c
theorem rnextT_any (v : Value) (l : List Rl) (a : Nat) (w : World) (hv : IsR w v l) (ha : (a : Int) ≤ 4294967295) (hwf : ∀ r ∈ l, r.at_ ≤ 4294967295) :
    Calls Try.prog 30 #[v, .int .u32 (a : Int)] w fun e w' => e = .returned (.tuple #[.int .i64 (nextT (findF l a)).1, .bool (nextT (findF l a)).2]) ∧ Below w.heap.size w w' := by
  cases hf : findF l a with
  | none =>
    have C := Lib.hid (rfindT_none v l a w hv ha hwf hf)
    clear hf hv hwf
    go_enter Try.func30, Try.ntmps30
    go_wp2_with fail
    refine C.out.mono ?_
    rintro e1 w1 ⟨rfl, hb⟩
    have HB := Lib.hid hb
    clear hb
    go_wp2_with fail
    go_ret2
    exact ⟨rfl, HB.out.alloc HB.out.size _⟩
  | some r =>
    have C := Lib.hid (rfindT_some v l a r w hv ha hwf hf)
    clear hf hv hwf
    by_cases h1 : r.act = 1
    · have HE : Hid (nextT (some r) = (r.nxt, true)) := by show _ = _; simp [nextT, h1]
      rw [h1] at C
      clear h1
      go_enter Try.func30, Try.ntmps30
      go_wp2_with fail
      refine C.out.mono ?_
      rintro e1 w1 ⟨rfl, hb⟩
      have HB := Lib.hid hb
      clear hb
      go_wp2_with fail
      go_ret2
      exact ⟨by rw [HE.out]; rfl, HB.out.alloc HB.out.size _⟩
    · have HE : Hid (nextT (some r) = (0, false)) := by show _ = _; simp [nextT, h1]
      have t1 : (r.act != 1) = true := by rw [bne_iff_ne]; exact h1
      clear h1
      go_enter Try.func30, Try.ntmps30
      go_wp2_with fail
      refine C.out.mono ?_
      rintro e1 w1 ⟨rfl, hb⟩
      have HB := Lib.hid hb
      clear hb
      go_wp2_with fail
      go_ret2
      exact ⟨by rw [HE.out]; rfl, HB.out.alloc HB.out.size _⟩
end Go.Proofs.Ytpfpkghihpcbkaa
