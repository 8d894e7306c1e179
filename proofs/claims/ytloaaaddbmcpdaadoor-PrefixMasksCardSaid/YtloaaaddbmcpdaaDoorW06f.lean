/- The walk of theseuslaw06.PrefixMasks. -/
import Derived.Test.YtloaaaddbmcpdaaDoorL06
import Derived.Test.YtloaaaddbmcpdaaDoorRef06
namespace Go.Proofs.YtloaaaddbmcpdaaDoor
open Go.RowKit
set_option linter.unusedVariables false
set_option linter.unusedSimpArgs false

set_option maxRecDepth 100000 in
set_option maxHeartbeats 4000000 in
theorem walkPrefixMasks (n a1 a2 : Int) (w : World) (ht : Hid (Tab w)) (w0 : (Lit.int .i64 n).wf = true) (w1 : (Lit.int .u32 a1).wf = true) (w2 : (Lit.int .u32 a2).wf = true) :
    Calls Tryd.prog 9 #[.int .i64 n, .int .u32 a1, .int .u32 a2] w fun e w' => e = .returned (.bool true) ∧ Below w.heap.size w w' := by
  obtain ⟨hl1, hh1⟩ := bounds_u32 w1
  obtain ⟨a, rfl⟩ := Int.eq_ofNat_of_zero_le hl1
  have ha : (a : Int) ≤ 4294967295 := by omega
  clear w1 hl1 hh1
  obtain ⟨hl2, hh2⟩ := bounds_u32 w2
  obtain ⟨b, rfl⟩ := Int.eq_ofNat_of_zero_le hl2
  have hb : (b : Int) ≤ 4294967295 := by omega
  clear w2 hl2 hh2
  clear w0
  have C0 := Lib.hid (fun w => mask_any n w)
  have hc := cl_le n
  have HC : Hid (cl n = (min (max n 0) 32).toNat) := rfl
  have x1 := and_k a (cl n) ha hc
  have x2 := and_k b (cl n) hb hc
  have hm := msk_le (cl n)
  have K1 := fun w => ends_any a 0 w ha
  rw [show cl 0 = 0 from rfl, lo_zero a (by omega), hi_zero a (by omega)] at K1
  have K2 := fun w => ends_any a 32 w ha
  rw [show cl 32 = 32 from rfl, lo_full a, hi_full a] at K2
  have h0 : holdB a 0 b = true := by unfold holdB; rw [lo_zero a (by omega), lo_zero b (by omega)]; rfl
  have K3 := fun w => holds_any a b 0 w ha hb
  rw [show cl 0 = 0 from rfl, h0] at K3
  have K4 := fun w => holds_any a b (-1) w ha hb
  rw [show cl (-1) = 0 from rfl, h0] at K4
  have h32 : holdB a 32 b = decide (a = b) := by unfold holdB; rw [lo_full, lo_full]
  have K5 := fun w => holds_any a b 32 w ha hb
  rw [show cl 32 = 32 from rfl, h32] at K5
  have K6 := fun w => holds_any a b 33 w ha hb
  rw [show cl 33 = 32 from rfl, h32] at K6
  have K7 := fun w => holds_any a b n w ha hb
  have hlo : holdB a (cl n) b = decide (loN a (cl n) = loN b (cl n)) := rfl
  rw [hlo] at K7
  have HB := Lib.hid (fun k (h : k < 32) => msk_bit (cl n) k hc h)
  generalize hM : mskN (cl n) = M at *
  have hM2 : (M : Int) ≤ 4294967295 := by omega
  have hL := lo_lt a (cl n) (by omega)
  have hL2 := lo_lt b (cl n) (by omega)
  have hab : a = b → loN a (cl n) = loN b (cl n) := fun h => by rw [h]
  generalize loN a (cl n) = L at *
  generalize loN b (cl n) = L2 at *
  replace K1 := Lib.hid K1
  replace K2 := Lib.hid K2
  replace K3 := Lib.hid K3
  replace K4 := Lib.hid K4
  replace K5 := Lib.hid K5
  replace K6 := Lib.hid K6
  replace K7 := Lib.hid K7
  have HAB := Lib.hid hab
  have t0 : ((a : Int) == (a : Int)) = true := by simp
  clear hM hm hab h0 h32 hlo hc
  go_enter Tryd.func9, Tryd.ntmps9
  go_wp2_with fail
  refine (shown6 w ht).mono ?_
  rintro e1 w1 ⟨rfl, hb⟩
  have HB1 := Lib.hid hb
  clear hb
  go_wp2_with fail
  refine (C0.out _).mono ?_
  rintro e1 wq ⟨rfl, rfl⟩
  go_wp2_with fail
  go_loop [9] (fun i => ∃ k : Nat, k ≤ 32 ∧ i = .int .i64 k) (fun i => 32 - (intOf i).toNat)
  case atStart => exact ⟨0, by omega, rfl⟩
  case round =>
    obtain ⟨k, hk, rfl⟩ := hrel
    by_cases hlt : k < 32
    · have D := Lib.hid (fun w => bit_in M k w hM2 (by omega))
      have hbit := HB.out k hlt
      by_cases hn : (k : Int) < n
      · rw [if_pos (by have := HC.out; omega)] at hbit
        rw [hbit] at D
        clear hbit
        go_wp2_with fail
        refine (D.out _).mono ?_
        rintro e1 wq ⟨rfl, rfl⟩
        go_wp2_with fail
        go_round
        case rel => exact ⟨k + 1, by omega, by go_num⟩
        case measure => simp [intOf]; omega
      · rw [if_neg (by have := HC.out; omega)] at hbit
        rw [hbit] at D
        clear hbit
        go_wp2_with fail
        refine (D.out _).mono ?_
        rintro e1 wq ⟨rfl, rfl⟩
        go_wp2_with fail
        go_round
        case rel => exact ⟨k + 1, by omega, by go_num⟩
        case measure => simp [intOf]; omega
    · obtain rfl : k = 32 := by omega
      rcases (show a = b ∨ (a ≠ b ∧ L = L2) ∨ (a ≠ b ∧ L ≠ L2) by have := HAB.out; omega) with h | h | h
      · have hl := HAB.out h
        subst h
        subst hl
        rw [decide_eq_true rfl] at K5 K6 K7
        have t1 : ((L : Int) == (L : Int)) = true := by simp
        clear HAB HB HC
        go_wp2_with fail
        refine (K1.out _).mono ?_
        rintro e1 w2 ⟨rfl, hb⟩
        have HB2 := Lib.hid (HB1.out.trans (hb.mono HB1.out.size))
        clear hb
        go_wp2_with fail
        refine (K2.out _).mono ?_
        rintro e1 w3 ⟨rfl, hb⟩
        have HB3 := Lib.hid (HB2.out.trans (hb.mono HB2.out.size))
        clear hb
        go_wp2_with fail
        refine (K3.out _).mono ?_
        rintro e1 w4 ⟨rfl, hb⟩
        have HB4 := Lib.hid (HB3.out.trans (hb.mono HB3.out.size))
        clear hb
        go_wp2_with fail
        refine (K4.out _).mono ?_
        rintro e1 w5 ⟨rfl, hb⟩
        have HB5 := Lib.hid (HB4.out.trans (hb.mono HB4.out.size))
        clear hb
        go_wp2_with fail
        refine (K5.out _).mono ?_
        rintro e1 w6 ⟨rfl, hb⟩
        have HB6 := Lib.hid (HB5.out.trans (hb.mono HB5.out.size))
        clear hb
        go_wp2_with fail
        refine (K6.out _).mono ?_
        rintro e1 w7 ⟨rfl, hb⟩
        have HB7 := Lib.hid (HB6.out.trans (hb.mono HB6.out.size))
        clear hb
        go_wp2_with fail
        refine (K7.out _).mono ?_
        rintro e1 w8 ⟨rfl, hb⟩
        have HB8 := Lib.hid (HB7.out.trans (hb.mono HB7.out.size))
        clear hb
        go_wp2_with fail
        go_ret
        exact ⟨rfl, HB8.out⟩
      · obtain ⟨h1, rfl⟩ := h
        rw [decide_eq_false h1] at K5 K6
        rw [decide_eq_true rfl] at K7
        have t1 : ((L : Int) == (L : Int)) = true := by simp
        have t2 : ((a : Int) == (b : Int)) = false := by rw [beq_eq_false_iff_ne]; omega
        clear h1
        clear HAB HB HC
        go_wp2_with fail
        refine (K1.out _).mono ?_
        rintro e1 w2 ⟨rfl, hb⟩
        have HB2 := Lib.hid (HB1.out.trans (hb.mono HB1.out.size))
        clear hb
        go_wp2_with fail
        refine (K2.out _).mono ?_
        rintro e1 w3 ⟨rfl, hb⟩
        have HB3 := Lib.hid (HB2.out.trans (hb.mono HB2.out.size))
        clear hb
        go_wp2_with fail
        refine (K3.out _).mono ?_
        rintro e1 w4 ⟨rfl, hb⟩
        have HB4 := Lib.hid (HB3.out.trans (hb.mono HB3.out.size))
        clear hb
        go_wp2_with fail
        refine (K4.out _).mono ?_
        rintro e1 w5 ⟨rfl, hb⟩
        have HB5 := Lib.hid (HB4.out.trans (hb.mono HB4.out.size))
        clear hb
        go_wp2_with fail
        refine (K5.out _).mono ?_
        rintro e1 w6 ⟨rfl, hb⟩
        have HB6 := Lib.hid (HB5.out.trans (hb.mono HB5.out.size))
        clear hb
        go_wp2_with fail
        refine (K6.out _).mono ?_
        rintro e1 w7 ⟨rfl, hb⟩
        have HB7 := Lib.hid (HB6.out.trans (hb.mono HB6.out.size))
        clear hb
        go_wp2_with fail
        refine (K7.out _).mono ?_
        rintro e1 w8 ⟨rfl, hb⟩
        have HB8 := Lib.hid (HB7.out.trans (hb.mono HB7.out.size))
        clear hb
        go_wp2_with fail
        go_ret
        exact ⟨rfl, HB8.out⟩
      · obtain ⟨h1, h2⟩ := h
        rw [decide_eq_false h1] at K5 K6
        rw [decide_eq_false h2] at K7
        have t1 : ((L : Int) == (L2 : Int)) = false := by rw [beq_eq_false_iff_ne]; omega
        have t2 : ((a : Int) == (b : Int)) = false := by rw [beq_eq_false_iff_ne]; omega
        clear h1 h2
        clear HAB HB HC
        go_wp2_with fail
        refine (K1.out _).mono ?_
        rintro e1 w2 ⟨rfl, hb⟩
        have HB2 := Lib.hid (HB1.out.trans (hb.mono HB1.out.size))
        clear hb
        go_wp2_with fail
        refine (K2.out _).mono ?_
        rintro e1 w3 ⟨rfl, hb⟩
        have HB3 := Lib.hid (HB2.out.trans (hb.mono HB2.out.size))
        clear hb
        go_wp2_with fail
        refine (K3.out _).mono ?_
        rintro e1 w4 ⟨rfl, hb⟩
        have HB4 := Lib.hid (HB3.out.trans (hb.mono HB3.out.size))
        clear hb
        go_wp2_with fail
        refine (K4.out _).mono ?_
        rintro e1 w5 ⟨rfl, hb⟩
        have HB5 := Lib.hid (HB4.out.trans (hb.mono HB4.out.size))
        clear hb
        go_wp2_with fail
        refine (K5.out _).mono ?_
        rintro e1 w6 ⟨rfl, hb⟩
        have HB6 := Lib.hid (HB5.out.trans (hb.mono HB5.out.size))
        clear hb
        go_wp2_with fail
        refine (K6.out _).mono ?_
        rintro e1 w7 ⟨rfl, hb⟩
        have HB7 := Lib.hid (HB6.out.trans (hb.mono HB6.out.size))
        clear hb
        go_wp2_with fail
        refine (K7.out _).mono ?_
        rintro e1 w8 ⟨rfl, hb⟩
        have HB8 := Lib.hid (HB7.out.trans (hb.mono HB7.out.size))
        clear hb
        go_wp2_with fail
        go_ret
        exact ⟨rfl, HB8.out⟩
end Go.Proofs.YtloaaaddbmcpdaaDoor
