/- The walk of theseuslaw06.PrefixEnds. -/
import Derived.Test.YtloaaaddbmcpdaaDoorL06
import Derived.Test.YtloaaaddbmcpdaaDoorRef06
namespace Go.Proofs.YtloaaaddbmcpdaaDoor
open Go.RowKit
set_option linter.unusedVariables false
set_option linter.unusedSimpArgs false

theorem span_one (k : Nat) (hk : k ≤ 32) (L : Nat) (H : Nat) (h : H = L + (2 ^ (32 - k) - 1)) : (H : Int) - (L : Int) + 1 = 2 ^ (32 - k) := by
  have h1 := pw_pos k
  have e : (2 : Int) ^ (32 - k) = ((2 ^ (32 - k) : Nat) : Int) := by rw [Int.natCast_pow]; rfl
  rw [e]
  omega
set_option maxRecDepth 100000 in
set_option maxHeartbeats 4000000 in
theorem walkPrefixEnds (a0 a1 a2 : Int) (w : World) (ht : Hid (Tab w)) (w0 : (Lit.int .u32 a0).wf = true) (w1 : (Lit.int .u8 a1).wf = true) (w2 : (Lit.int .u32 a2).wf = true) :
    Calls Tryd.prog 4 #[.int .u32 a0, .int .u8 a1, .int .u32 a2] w fun e w' => e = .returned (.bool true) ∧ Below w.heap.size w w' := by
  obtain ⟨hl0, hh0⟩ := bounds_u32 w0
  obtain ⟨a, rfl⟩ := Int.eq_ofNat_of_zero_le hl0
  have ha : (a : Int) ≤ 4294967295 := by omega
  clear w0 hl0 hh0
  obtain ⟨hl1, hh1⟩ := bounds_u8 w1
  obtain ⟨i, rfl⟩ := Int.eq_ofNat_of_zero_le hl1
  have hi : (i : Int) ≤ 255 := by omega
  clear w1 hl1 hh1
  obtain ⟨hl2, hh2⟩ := bounds_u32 w2
  obtain ⟨b, rfl⟩ := Int.eq_ofNat_of_zero_le hl2
  have hb : (b : Int) ≤ 4294967295 := by omega
  clear w2 hl2 hh2
  obtain ⟨k, hkk⟩ : ∃ k : Nat, ((i : Int) % 33) = (k : Int) := ⟨i % 33, by omega⟩
  have hk : (k : Int) ≤ 32 := by omega
  obtain ⟨t, ht2⟩ : ∃ t : Nat, (32 : Int) - (k : Int) = (t : Int) := ⟨32 - k, by omega⟩
  have hx := and_k a k ha (by omega)
  have hsp := span_one k (by omega) (loN a k) (hiN a k) rfl
  rw [show 32 - k = t by omega] at hsp
  have hlo := lo_le a k
  have hli : loN a k ≤ hiN a k := Nat.le_add_right _ _
  have hhi : hiN a k ≤ 4294967295 := by have := hi_lt a k (by omega); omega
  have hhold := hold_iff a k b
  have htop : loN a k + 2 ^ (32 - k) = hiN a k + 1 := by have := pw_pos k; unfold hiN; omega
  rw [htop] at hhold
  have hll : (loN a k : Int) ≤ 4294967295 := by omega
  have K1 := fun w => mask_k k w (by omega)
  have K2 := fun w => ends_k (loN a k) k w hll (by omega)
  rw [lo_lo, show hiN (loN a k) k = hiN a k by unfold hiN; rw [lo_lo]] at K2
  have K3 := fun w => ends_k a k w ha (by omega)
  have K4 := fun w => common_any (loN a k) b w hll hb
  have hcom := hold_com (loN a k) k b (by omega) (by omega) (by omega)
  rw [hold_lo] at hcom
  have K5 := fun w => may_any (loN a k) k w hll
  rw [may_lo a k (by omega)] at K5
  have K6 := fun w => holds_k (loN a k) k b w hll hb (by omega)
  rw [hold_lo] at K6
  have K7 := fun w => may_any a k w ha
  rw [may_in a k (by omega)] at K7
  have hxe : loN a k = a ∨ loN a k < a := by omega
  generalize com (loN a k) b = n at *
  generalize holdB a k b = h at *
  generalize hiN a k = H at *
  generalize hX : loN a k = X at *
  clear hX htop
  have hH : (H : Int) ≤ 4294967295 := by omega
  replace K1 := Lib.hid K1
  replace K2 := Lib.hid K2
  replace K3 := Lib.hid K3
  replace K4 := Lib.hid K4
  replace K5 := Lib.hid K5
  replace K6 := Lib.hid K6
  have hw : (1 : Nat) ≤ 2 ^ t ∧ 2 ^ t ≤ 4294967296 := ⟨Nat.one_le_two_pow, Nat.le_trans (Nat.pow_le_pow_right (by omega) (show t ≤ 32 by omega)) (by decide)⟩
  have ts : ((H : Int) - (X : Int) + 1 == IntKind.u64.wrap (2 ^ t)) = true := by
    have e : (2 : Int) ^ t = ((2 ^ t : Nat) : Int) := by rw [Int.natCast_pow]; rfl
    rw [beq_iff_eq, hsp, e, IntKind.wrap_u64]
    exact (Int.emod_eq_of_lt (by omega) (by omega)).symm
  have hli2 : (X : Int) ≤ (H : Int) := by omega
  have tx : ((X : Int) == (X : Int)) = true := by simp
  have th : ((H : Int) == (H : Int)) = true := by simp
  clear hsp hw hhi hlo
  rcases hxe with hxe | hxe
  · subst hxe
    rw [if_pos rfl] at K7
    replace K7 := Lib.hid K7
    have ta : ((X : Int) == (X : Int)) = true := by simp
    rcases (by omega : (X ≤ b ∧ b ≤ H) ∨ b < X ∨ (X ≤ b ∧ H < b)) with hc | hc | hc
    · obtain rfl : h = true := hhold.2 ⟨hc.1, by omega⟩
      have g1 : decide (X ≤ b) = true := by simp; omega
      have g2 : decide (b ≤ H) = true := by simp; omega
      have g3 : decide (k ≤ n) = true := by have := hcom.1 rfl; simpa using this
      clear hc hhold hcom hli
      go_enter Tryd.func4, Tryd.ntmps4
      go_wp2_with fail
      refine (shown6 w ht).mono ?_
      rintro e1 w1 ⟨rfl, hb⟩
      have HB1 := Lib.hid hb
      clear hb
      go_wp2_with fail
      refine (K1.out _).mono ?_
      rintro e1 wq ⟨rfl, rfl⟩
      go_wp2_with fail
      refine (K2.out _).mono ?_
      rintro e1 w2 ⟨rfl, hb⟩
      have HB2 := Lib.hid (HB1.out.trans (hb.mono HB1.out.size))
      clear hb
      go_wp2_with fail
      refine (K3.out _).mono ?_
      rintro e1 w3 ⟨rfl, hb⟩
      have HB3 := Lib.hid (HB2.out.trans (hb.mono HB2.out.size))
      clear hb
      go_wp2_with fail
      refine (K4.out _).mono ?_
      rintro e1 wq ⟨rfl, rfl⟩
      go_wp2_with fail
      refine (K5.out _).mono ?_
      rintro e1 w4 ⟨rfl, hb⟩
      have HB4 := Lib.hid (HB3.out.trans (hb.mono HB3.out.size))
      clear hb
      go_wp2_with fail
      refine (K6.out _).mono ?_
      rintro e1 w5 ⟨rfl, hb⟩
      have HB5 := Lib.hid (HB4.out.trans (hb.mono HB4.out.size))
      clear hb
      go_wp2_with fail
      refine (K6.out _).mono ?_
      rintro e1 w6 ⟨rfl, hb⟩
      have HB6 := Lib.hid (HB5.out.trans (hb.mono HB5.out.size))
      clear hb
      go_wp2_with fail
      refine (K7.out _).mono ?_
      rintro e1 w7 ⟨rfl, hb⟩
      have HB7 := Lib.hid (HB6.out.trans (hb.mono HB6.out.size))
      clear hb
      go_wp2_with fail
      
      go_ret
      exact ⟨rfl, HB7.out⟩
    · obtain rfl : h = false := by rw [← Bool.not_eq_true]; intro g; have := hhold.1 g; omega
      have g1 : decide (X ≤ b) = false := by simp; omega
      have g3 : decide (k ≤ n) = false := by rw [decide_eq_false_iff_not]; intro g; have := hcom.2 g; cases this
      clear hc hhold hcom hli
      go_enter Tryd.func4, Tryd.ntmps4
      go_wp2_with fail
      refine (shown6 w ht).mono ?_
      rintro e1 w1 ⟨rfl, hb⟩
      have HB1 := Lib.hid hb
      clear hb
      go_wp2_with fail
      refine (K1.out _).mono ?_
      rintro e1 wq ⟨rfl, rfl⟩
      go_wp2_with fail
      refine (K2.out _).mono ?_
      rintro e1 w2 ⟨rfl, hb⟩
      have HB2 := Lib.hid (HB1.out.trans (hb.mono HB1.out.size))
      clear hb
      go_wp2_with fail
      refine (K3.out _).mono ?_
      rintro e1 w3 ⟨rfl, hb⟩
      have HB3 := Lib.hid (HB2.out.trans (hb.mono HB2.out.size))
      clear hb
      go_wp2_with fail
      refine (K4.out _).mono ?_
      rintro e1 wq ⟨rfl, rfl⟩
      go_wp2_with fail
      refine (K5.out _).mono ?_
      rintro e1 w4 ⟨rfl, hb⟩
      have HB4 := Lib.hid (HB3.out.trans (hb.mono HB3.out.size))
      clear hb
      go_wp2_with fail
      refine (K6.out _).mono ?_
      rintro e1 w5 ⟨rfl, hb⟩
      have HB5 := Lib.hid (HB4.out.trans (hb.mono HB4.out.size))
      clear hb
      go_wp2_with fail
      refine (K6.out _).mono ?_
      rintro e1 w6 ⟨rfl, hb⟩
      have HB6 := Lib.hid (HB5.out.trans (hb.mono HB5.out.size))
      clear hb
      go_wp2_with fail
      refine (K7.out _).mono ?_
      rintro e1 w7 ⟨rfl, hb⟩
      have HB7 := Lib.hid (HB6.out.trans (hb.mono HB6.out.size))
      clear hb
      go_wp2_with fail
      
      go_ret
      exact ⟨rfl, HB7.out⟩
    · obtain rfl : h = false := by rw [← Bool.not_eq_true]; intro g; have := hhold.1 g; omega
      have g1 : decide (X ≤ b) = true := by simp; omega
      have g2 : decide (b ≤ H) = false := by simp; omega
      have g3 : decide (k ≤ n) = false := by rw [decide_eq_false_iff_not]; intro g; have := hcom.2 g; cases this
      clear hc hhold hcom hli
      go_enter Tryd.func4, Tryd.ntmps4
      go_wp2_with fail
      refine (shown6 w ht).mono ?_
      rintro e1 w1 ⟨rfl, hb⟩
      have HB1 := Lib.hid hb
      clear hb
      go_wp2_with fail
      refine (K1.out _).mono ?_
      rintro e1 wq ⟨rfl, rfl⟩
      go_wp2_with fail
      refine (K2.out _).mono ?_
      rintro e1 w2 ⟨rfl, hb⟩
      have HB2 := Lib.hid (HB1.out.trans (hb.mono HB1.out.size))
      clear hb
      go_wp2_with fail
      refine (K3.out _).mono ?_
      rintro e1 w3 ⟨rfl, hb⟩
      have HB3 := Lib.hid (HB2.out.trans (hb.mono HB2.out.size))
      clear hb
      go_wp2_with fail
      refine (K4.out _).mono ?_
      rintro e1 wq ⟨rfl, rfl⟩
      go_wp2_with fail
      refine (K5.out _).mono ?_
      rintro e1 w4 ⟨rfl, hb⟩
      have HB4 := Lib.hid (HB3.out.trans (hb.mono HB3.out.size))
      clear hb
      go_wp2_with fail
      refine (K6.out _).mono ?_
      rintro e1 w5 ⟨rfl, hb⟩
      have HB5 := Lib.hid (HB4.out.trans (hb.mono HB4.out.size))
      clear hb
      go_wp2_with fail
      refine (K6.out _).mono ?_
      rintro e1 w6 ⟨rfl, hb⟩
      have HB6 := Lib.hid (HB5.out.trans (hb.mono HB5.out.size))
      clear hb
      go_wp2_with fail
      refine (K7.out _).mono ?_
      rintro e1 w7 ⟨rfl, hb⟩
      have HB7 := Lib.hid (HB6.out.trans (hb.mono HB6.out.size))
      clear hb
      go_wp2_with fail
      
      go_ret
      exact ⟨rfl, HB7.out⟩
  · rw [if_neg (by omega)] at K7
    replace K7 := Lib.hid K7
    have ta : ((a : Int) == (X : Int)) = false := by rw [beq_eq_false_iff_ne]; omega
    clear hxe
    rcases (by omega : (X ≤ b ∧ b ≤ H) ∨ b < X ∨ (X ≤ b ∧ H < b)) with hc | hc | hc
    · obtain rfl : h = true := hhold.2 ⟨hc.1, by omega⟩
      have g1 : decide (X ≤ b) = true := by simp; omega
      have g2 : decide (b ≤ H) = true := by simp; omega
      have g3 : decide (k ≤ n) = true := by have := hcom.1 rfl; simpa using this
      clear hc hhold hcom hli
      go_enter Tryd.func4, Tryd.ntmps4
      go_wp2_with fail
      refine (shown6 w ht).mono ?_
      rintro e1 w1 ⟨rfl, hb⟩
      have HB1 := Lib.hid hb
      clear hb
      go_wp2_with fail
      refine (K1.out _).mono ?_
      rintro e1 wq ⟨rfl, rfl⟩
      go_wp2_with fail
      refine (K2.out _).mono ?_
      rintro e1 w2 ⟨rfl, hb⟩
      have HB2 := Lib.hid (HB1.out.trans (hb.mono HB1.out.size))
      clear hb
      go_wp2_with fail
      refine (K3.out _).mono ?_
      rintro e1 w3 ⟨rfl, hb⟩
      have HB3 := Lib.hid (HB2.out.trans (hb.mono HB2.out.size))
      clear hb
      go_wp2_with fail
      refine (K4.out _).mono ?_
      rintro e1 wq ⟨rfl, rfl⟩
      go_wp2_with fail
      refine (K5.out _).mono ?_
      rintro e1 w4 ⟨rfl, hb⟩
      have HB4 := Lib.hid (HB3.out.trans (hb.mono HB3.out.size))
      clear hb
      go_wp2_with fail
      refine (K6.out _).mono ?_
      rintro e1 w5 ⟨rfl, hb⟩
      have HB5 := Lib.hid (HB4.out.trans (hb.mono HB4.out.size))
      clear hb
      go_wp2_with fail
      refine (K6.out _).mono ?_
      rintro e1 w6 ⟨rfl, hb⟩
      have HB6 := Lib.hid (HB5.out.trans (hb.mono HB5.out.size))
      clear hb
      go_wp2_with fail
      refine (K7.out _).mono ?_
      rintro e1 w7 ⟨rfl, hb⟩
      have HB7 := Lib.hid (HB6.out.trans (hb.mono HB6.out.size))
      clear hb
      go_wp2_with fail
      
      go_ret
      exact ⟨rfl, HB7.out⟩
    · obtain rfl : h = false := by rw [← Bool.not_eq_true]; intro g; have := hhold.1 g; omega
      have g1 : decide (X ≤ b) = false := by simp; omega
      have g3 : decide (k ≤ n) = false := by rw [decide_eq_false_iff_not]; intro g; have := hcom.2 g; cases this
      clear hc hhold hcom hli
      go_enter Tryd.func4, Tryd.ntmps4
      go_wp2_with fail
      refine (shown6 w ht).mono ?_
      rintro e1 w1 ⟨rfl, hb⟩
      have HB1 := Lib.hid hb
      clear hb
      go_wp2_with fail
      refine (K1.out _).mono ?_
      rintro e1 wq ⟨rfl, rfl⟩
      go_wp2_with fail
      refine (K2.out _).mono ?_
      rintro e1 w2 ⟨rfl, hb⟩
      have HB2 := Lib.hid (HB1.out.trans (hb.mono HB1.out.size))
      clear hb
      go_wp2_with fail
      refine (K3.out _).mono ?_
      rintro e1 w3 ⟨rfl, hb⟩
      have HB3 := Lib.hid (HB2.out.trans (hb.mono HB2.out.size))
      clear hb
      go_wp2_with fail
      refine (K4.out _).mono ?_
      rintro e1 wq ⟨rfl, rfl⟩
      go_wp2_with fail
      refine (K5.out _).mono ?_
      rintro e1 w4 ⟨rfl, hb⟩
      have HB4 := Lib.hid (HB3.out.trans (hb.mono HB3.out.size))
      clear hb
      go_wp2_with fail
      refine (K6.out _).mono ?_
      rintro e1 w5 ⟨rfl, hb⟩
      have HB5 := Lib.hid (HB4.out.trans (hb.mono HB4.out.size))
      clear hb
      go_wp2_with fail
      refine (K6.out _).mono ?_
      rintro e1 w6 ⟨rfl, hb⟩
      have HB6 := Lib.hid (HB5.out.trans (hb.mono HB5.out.size))
      clear hb
      go_wp2_with fail
      refine (K7.out _).mono ?_
      rintro e1 w7 ⟨rfl, hb⟩
      have HB7 := Lib.hid (HB6.out.trans (hb.mono HB6.out.size))
      clear hb
      go_wp2_with fail
      
      go_ret
      exact ⟨rfl, HB7.out⟩
    · obtain rfl : h = false := by rw [← Bool.not_eq_true]; intro g; have := hhold.1 g; omega
      have g1 : decide (X ≤ b) = true := by simp; omega
      have g2 : decide (b ≤ H) = false := by simp; omega
      have g3 : decide (k ≤ n) = false := by rw [decide_eq_false_iff_not]; intro g; have := hcom.2 g; cases this
      clear hc hhold hcom hli
      go_enter Tryd.func4, Tryd.ntmps4
      go_wp2_with fail
      refine (shown6 w ht).mono ?_
      rintro e1 w1 ⟨rfl, hb⟩
      have HB1 := Lib.hid hb
      clear hb
      go_wp2_with fail
      refine (K1.out _).mono ?_
      rintro e1 wq ⟨rfl, rfl⟩
      go_wp2_with fail
      refine (K2.out _).mono ?_
      rintro e1 w2 ⟨rfl, hb⟩
      have HB2 := Lib.hid (HB1.out.trans (hb.mono HB1.out.size))
      clear hb
      go_wp2_with fail
      refine (K3.out _).mono ?_
      rintro e1 w3 ⟨rfl, hb⟩
      have HB3 := Lib.hid (HB2.out.trans (hb.mono HB2.out.size))
      clear hb
      go_wp2_with fail
      refine (K4.out _).mono ?_
      rintro e1 wq ⟨rfl, rfl⟩
      go_wp2_with fail
      refine (K5.out _).mono ?_
      rintro e1 w4 ⟨rfl, hb⟩
      have HB4 := Lib.hid (HB3.out.trans (hb.mono HB3.out.size))
      clear hb
      go_wp2_with fail
      refine (K6.out _).mono ?_
      rintro e1 w5 ⟨rfl, hb⟩
      have HB5 := Lib.hid (HB4.out.trans (hb.mono HB4.out.size))
      clear hb
      go_wp2_with fail
      refine (K6.out _).mono ?_
      rintro e1 w6 ⟨rfl, hb⟩
      have HB6 := Lib.hid (HB5.out.trans (hb.mono HB5.out.size))
      clear hb
      go_wp2_with fail
      refine (K7.out _).mono ?_
      rintro e1 w7 ⟨rfl, hb⟩
      have HB7 := Lib.hid (HB6.out.trans (hb.mono HB6.out.size))
      clear hb
      go_wp2_with fail
      
      go_ret
      exact ⟨rfl, HB7.out⟩
end Go.Proofs.YtloaaaddbmcpdaaDoor
