/- The walk of theseuslaw06.PrefixCommon. -/
import Derived.Test.YtloaaaddbmcpdaaDoorL06
import Derived.Test.YtloaaaddbmcpdaaDoorRef06
namespace Go.Proofs.YtloaaaddbmcpdaaDoor
open Go.RowKit
set_option linter.unusedVariables false
set_option linter.unusedSimpArgs false

set_option maxRecDepth 100000 in
set_option maxHeartbeats 2000000 in
theorem walkPrefixCommon (a0 a1 a2 : Int) (w : World) (ht : Hid (Tab w)) (w0 : (Lit.int .u32 a0).wf = true) (w1 : (Lit.int .u32 a1).wf = true) (w2 : (Lit.int .u8 a2).wf = true) :
    Calls Tryd.prog 10 #[.int .u32 a0, .int .u32 a1, .int .u8 a2] w fun e w' => e = .returned (.bool true) ∧ Below w.heap.size w w' := by
  obtain ⟨hl0, hh0⟩ := bounds_u32 w0
  obtain ⟨a, rfl⟩ := Int.eq_ofNat_of_zero_le hl0
  have ha : (a : Int) ≤ 4294967295 := by omega
  clear w0 hl0 hh0
  obtain ⟨hl1, hh1⟩ := bounds_u32 w1
  obtain ⟨b, rfl⟩ := Int.eq_ofNat_of_zero_le hl1
  have hb : (b : Int) ≤ 4294967295 := by omega
  clear w1 hl1 hh1
  obtain ⟨hl2, hh2⟩ := bounds_u8 w2
  obtain ⟨i, rfl⟩ := Int.eq_ofNat_of_zero_le hl2
  have hi : (i : Int) ≤ 255 := by omega
  clear w2 hl2 hh2
  obtain ⟨k, hkk⟩ : ∃ k : Nat, ((i : Int) % 33) = (k : Int) := ⟨i % 33, by omega⟩
  have hk : (k : Int) ≤ 32 := by omega
  have C0 := Lib.hid (fun w => common_any a b w ha hb)
  have C1 := Lib.hid (fun w => holds_k a k b w ha hb (by omega))
  have C2 := Lib.hid (fun w => holds_k b k a w hb ha (by omega))
  rw [hold_comm] at C2
  have C3 := Lib.hid (fun w => mask_k k w (by omega))
  have hH := hold_com a k b (by omega) (by omega) (by omega)
  obtain ⟨n, hn⟩ : ∃ n, com a b = n := ⟨_, rfl⟩
  rw [hn] at C0 hH
  clear hn
  by_cases hc : k ≤ n
  · have hh : holdB a k b = true := hH.2 hc
    have hl : loN b k = loN a k := by unfold holdB at hh; simpa using (decide_eq_true_iff.1 hh).symm
    rw [hh] at C1 C2
    have e1 := and_k a k ha (by omega)
    have e2 := and_k b k hb (by omega)
    rw [hl] at e2
    obtain ⟨L, hL⟩ : ∃ L, loN a k = L := ⟨_, rfl⟩
    rw [hL] at e1 e2
    have t1 : decide (k ≤ n) = true := by simpa using hc
    have t2 : decide (n < k) = false := by simp; omega
    have t3 : ((L : Int) == (L : Int)) = true := by simp
    clear hh hl hL hH hc
    go_enter Tryd.func10, Tryd.ntmps10
    go_wp2_with fail
    refine (shown6 w ht).mono ?_
    rintro e1 w1 ⟨rfl, hb⟩
    have HB1 := Lib.hid hb
    have HT1 := Lib.hid (ht.out.bel hb)
    clear hb
    go_wp2_with fail
    refine (C0.out _).mono ?_
    rintro e1 wq ⟨rfl, rfl⟩
    go_wp2_with fail
    refine (C1.out _).mono ?_
    rintro e1 w2 ⟨rfl, hb⟩
    have HB2 := Lib.hid (HB1.out.trans (hb.mono HB1.out.size))
    have HT2 := Lib.hid (HT1.out.bel hb)
    clear hb
    go_wp2_with fail
    refine (C2.out _).mono ?_
    rintro e1 w3 ⟨rfl, hb⟩
    have HB3 := Lib.hid (HB2.out.trans (hb.mono HB2.out.size))
    have HT3 := Lib.hid (HT2.out.bel hb)
    clear hb
    go_wp2_with fail
    refine (C3.out _).mono ?_
    rintro e1 wq ⟨rfl, rfl⟩
    go_wp2_with fail
    refine (C3.out _).mono ?_
    rintro e1 wq ⟨rfl, rfl⟩
    go_wp2_with fail
    go_ret
    exact ⟨rfl, HB3.out⟩
  · have hh : holdB a k b = false := by rw [← Bool.not_eq_true]; exact fun h => hc (hH.1 h)
    rw [hh] at C1 C2
    have t1 : decide (k ≤ n) = false := by simpa using hc
    have t2 : decide (n < k) = true := by simp; omega
    clear hh hH hc
    go_enter Tryd.func10, Tryd.ntmps10
    go_wp2_with fail
    refine (shown6 w ht).mono ?_
    rintro e1 w1 ⟨rfl, hb⟩
    have HB1 := Lib.hid hb
    have HT1 := Lib.hid (ht.out.bel hb)
    clear hb
    go_wp2_with fail
    refine (C0.out _).mono ?_
    rintro e1 wq ⟨rfl, rfl⟩
    go_wp2_with fail
    refine (C1.out _).mono ?_
    rintro e1 w2 ⟨rfl, hb⟩
    have HB2 := Lib.hid (HB1.out.trans (hb.mono HB1.out.size))
    have HT2 := Lib.hid (HT1.out.bel hb)
    clear hb
    go_wp2_with fail
    refine (C2.out _).mono ?_
    rintro e1 w3 ⟨rfl, hb⟩
    have HB3 := Lib.hid (HB2.out.trans (hb.mono HB2.out.size))
    have HT3 := Lib.hid (HT2.out.bel hb)
    clear hb
    go_wp2_with fail
    go_ret
    exact ⟨rfl, HB3.out⟩
end Go.Proofs.YtloaaaddbmcpdaaDoor
