/- The walk of theseuslaw06.PrefixHalves. -/
import Derived.Test.YtloaaaddbmcpdaaDoorL06
namespace Go.Proofs.YtloaaaddbmcpdaaDoor
open Go.RowKit
set_option linter.unusedVariables false
set_option linter.unusedSimpArgs false

theorem or_half (a k : Nat) (hk : k ≤ 31) : loN a k ||| 2 ^ (31 - k) = loN a k + 2 ^ (31 - k) := by
  have h3 : loN a k = 2 ^ (32 - k) * (a / 2 ^ (32 - k)) := Nat.mul_comm _ _
  rw [h3]
  exact (Nat.two_pow_add_eq_or_of_lt (Nat.pow_lt_pow_right (by omega) (by omega)) _).symm
theorem lo_half (a k : Nat) (hk : k ≤ 31) : loN (loN a k) (k + 1) = loN a k :=
  lo_of_dvd (Nat.dvd_trans (Nat.pow_dvd_pow 2 (by omega)) (lo_dvd a k))
theorem lo_half2 (a k : Nat) (hk : k ≤ 31) : loN (loN a k + 2 ^ (31 - k)) (k + 1) = loN a k + 2 ^ (31 - k) := by
  refine lo_of_dvd ((Nat.dvd_add_right (Nat.dvd_trans (Nat.pow_dvd_pow 2 (by omega)) (lo_dvd a k))).2 ?_)
  rw [show 32 - (k + 1) = 31 - k by omega]
  exact Nat.dvd_refl _
set_option maxRecDepth 100000 in
set_option maxHeartbeats 4000000 in
theorem walkPrefixHalves (a0 a1 a2 : Int) (w : World) (ht : Hid (Tab w)) (w0 : (Lit.int .u32 a0).wf = true) (w1 : (Lit.int .u8 a1).wf = true) (w2 : (Lit.int .u32 a2).wf = true) :
    Calls Tryd.prog 8 #[.int .u32 a0, .int .u8 a1, .int .u32 a2] w fun e w' => e = .returned (.bool true) ∧ Below w.heap.size w w' := by
  obtain ⟨hl0, hh0⟩ := bounds_u32 w0
  obtain ⟨a, rfl⟩ := Int.eq_ofNat_of_zero_le hl0
  have ha : (a : Int) ≤ 4294967295 := by omega
  clear w0 hl0 hh0
  obtain ⟨hl1, hh1⟩ := bounds_u8 w1
  obtain ⟨i, rfl⟩ := Int.eq_ofNat_of_zero_le hl1
  have hi : (i : Int) ≤ 255 := by omega
  clear w1 hl1 hh1
  obtain ⟨hl2, hh2⟩ := bounds_u32 w2
  obtain ⟨c, rfl⟩ := Int.eq_ofNat_of_zero_le hl2
  have hc : (c : Int) ≤ 4294967295 := by omega
  clear w2 hl2 hh2
  obtain ⟨k, hkk⟩ : ∃ k : Nat, ((i : Int) % 32) = (k : Int) := ⟨i % 32, by omega⟩
  have hk : (k : Int) ≤ 31 := by omega
  obtain ⟨t, ht2⟩ : ∃ t : Nat, (31 : Int) - (k : Int) = (t : Int) := ⟨31 - k, by omega⟩
  have htk : t = 31 - k := by omega
  have hx := and_k a k ha (by omega)
  have C0 := fun w => mask_k k w (by omega)
  have ho : bits .or .u32 (loN a k : Int) (2 ^ t % 4294967296) = ((loN a k + 2 ^ (31 - k) : Nat) : Int) := by
    have h1 : (2 : Nat) ^ t < 4294967296 := Nat.lt_of_lt_of_le (Nat.pow_lt_pow_right (by omega) (show t < 32 by omega)) (by decide)
    have h2 : (2 : Int) ^ t % 4294967296 = ((2 ^ t : Nat) : Int) := by
      rw [show (2 : Int) ^ t = ((2 ^ t : Nat) : Int) by rw [Int.natCast_pow]; rfl]
      exact Int.emod_eq_of_lt (Int.natCast_nonneg _) (Int.ofNat_lt.2 h1)
    rw [h2, u32_or_nat _ _ (by have := lo_le a k; omega) h1, htk, or_half a k (by omega)]
  have hl1 := lo_lo a k
  have hl2 := lo_half a k (by omega)
  have hl3 := lo_half2 a k (by omega)
  have hp := pw_half k (by omega)
  have hpp := pw_pos (k + 1)
  have htop := lo_top a k (by omega)
  rw [show 32 - (k + 1) = 31 - k by omega] at hp hpp
  generalize hX : loN a k = X at *
  have hX1 : (X : Int) ≤ 4294967295 := by omega
  have hY1 : ((X + 2 ^ (31 - k) : Nat) : Int) ≤ 4294967295 := by omega
  have e1 : hiN X k + 1 = X + 2 ^ (32 - k) := by unfold hiN; rw [hl1]; omega
  have e2 : hiN X (k + 1) + 1 = X + 2 ^ (31 - k) := by unfold hiN; rw [hl2, show 32 - (k + 1) = 31 - k by omega]; omega
  have e3 : hiN (X + 2 ^ (31 - k)) (k + 1) + 1 = X + 2 ^ (31 - k) + 2 ^ (31 - k) := by unfold hiN; rw [hl3, show 32 - (k + 1) = 31 - k by omega]; omega
  have q : ((k + 1 : Nat) : Int) = (k : Int) + 1 := rfl
  have K1 := fun w => ends_k X k w hX1 (by omega)
  have K2 := fun w => ends_k X (k + 1) w hX1 (by omega)
  have K3 := fun w => ends_k (X + 2 ^ (31 - k)) (k + 1) w hY1 (by omega)
  have K4 := fun w => holds_k X (k + 1) c w hX1 hc (by omega)
  have K5 := fun w => holds_k (X + 2 ^ (31 - k)) (k + 1) c w hY1 hc (by omega)
  have K6 := fun w => holds_k X k c w hX1 hc (by omega)
  have K7 := fun w => may_any (X + 2 ^ (31 - k)) ((k + 1 : Nat) : Int) w hY1
  have hm : mayI (X + 2 ^ (31 - k)) ((k + 1 : Nat) : Int) = 0 := by rw [may_in _ _ (by omega), if_pos hl3]
  rw [hm] at K7
  have K8 := fun w => compare_any X X (k : Int) ((k + 1 : Nat) : Int) w
  rw [cmp_eq_lt X (by omega)] at K8
  have K9 := fun w => compare_any X (X + 2 ^ (31 - k)) ((k + 1 : Nat) : Int) ((k + 1 : Nat) : Int) w
  rw [cmp_lt _ _ (by omega)] at K9
  have HU := hold_iff X (k + 1) c
  have HV := hold_iff (X + 2 ^ (31 - k)) (k + 1) c
  have HW := hold_iff X k c
  rw [hl2, show 32 - (k + 1) = 31 - k by omega] at HU
  rw [hl3, show 32 - (k + 1) = 31 - k by omega] at HV
  rw [hl1] at HW
  rw [hl1] at K1
  rw [hl2] at K2
  rw [hl3] at K3
  rw [q] at K2 K3 K4 K5 K7 K8 K9
  rw [hp] at e1 HW
  generalize hiN X k = T at *
  generalize hiN X (k + 1) = M at *
  generalize hiN (X + 2 ^ (31 - k)) (k + 1) = T2 at *
  generalize holdB X (k + 1) c = u at *
  generalize holdB (X + 2 ^ (31 - k)) (k + 1) c = v at *
  generalize holdB X k c = h at *
  obtain rfl : T2 = T := by omega
  have hT : (T2 : Int) ≤ 4294967295 := by omega
  have hM : (M : Int) ≤ 4294967294 := by omega
  generalize 2 ^ (31 - k) = H at *
  generalize hY : X + H = Y at *
  have hn : (M : Int) + 1 = (Y : Int) := by omega
  have b1 : ((X : Int) == (X : Int)) = true := by simp
  have b2 : ((T2 : Int) == (T2 : Int)) = true := by simp
  have b3 : ((Y : Int) == (Y : Int)) = true := by simp
  replace C0 := Lib.hid C0
  replace K1 := Lib.hid K1
  replace K2 := Lib.hid K2
  replace K3 := Lib.hid K3
  replace K7 := Lib.hid K7
  replace K8 := Lib.hid K8
  replace K9 := Lib.hid K9
  rcases (by omega : (c < X ∨ Y + H ≤ c) ∨ (X ≤ c ∧ c < Y) ∨ (Y ≤ c ∧ c < Y + H)) with hq | hq | hq
  · obtain rfl : u = false := by rw [← Bool.not_eq_true, HU]; omega
    obtain rfl : v = false := by rw [← Bool.not_eq_true, HV]; omega
    obtain rfl : h = false := by rw [← Bool.not_eq_true, HW]; omega
    replace K4 := Lib.hid K4
    replace K5 := Lib.hid K5
    replace K6 := Lib.hid K6
    clear hq HU HV HW e1 e2 e3 hp hpp htop hl1 hl2 hl3 hm q hY hX htk
    go_enter Tryd.func8, Tryd.ntmps8
    go_wp2_with fail
    refine (shown6 w ht).mono ?_
    rintro e1 w1 ⟨rfl, hb⟩
    have HB1 := Lib.hid hb
    clear hb
    go_wp2_with fail
    refine (C0.out _).mono ?_
    rintro e1 wq ⟨rfl, rfl⟩
    go_wp2_with fail
    refine (K1.out _).mono ?_
    rintro e1 w2 ⟨rfl, hb⟩
    have HB2 := Lib.hid (HB1.out.trans (hb.mono HB1.out.size))
    clear hb
    go_wp2_with fail
    refine (K2.out _).mono ?_
    rintro e1 w3 ⟨rfl, hb⟩
    have HB3 := Lib.hid (HB2.out.trans (hb.mono HB2.out.size))
    clear hb
    go_wp2_with fail
    refine (K3.out _).mono ?_
    rintro e1 w4 ⟨rfl, hb⟩
    have HB4 := Lib.hid (HB3.out.trans (hb.mono HB3.out.size))
    clear hb
    go_wp2_with fail
    refine (K4.out _).mono ?_
    rintro e1 w5 ⟨rfl, hb⟩
    have HB5 := Lib.hid (HB4.out.trans (hb.mono HB4.out.size))
    clear hb
    go_wp2_with fail
    refine (K5.out _).mono ?_
    rintro e1 w6 ⟨rfl, hb⟩
    have HB6 := Lib.hid (HB5.out.trans (hb.mono HB5.out.size))
    clear hb
    go_wp2_with fail
    refine (K6.out _).mono ?_
    rintro e1 w7 ⟨rfl, hb⟩
    have HB7 := Lib.hid (HB6.out.trans (hb.mono HB6.out.size))
    clear hb
    go_wp2_with fail
    refine (K7.out _).mono ?_
    rintro e1 w8 ⟨rfl, hb⟩
    have HB8 := Lib.hid (HB7.out.trans (hb.mono HB7.out.size))
    clear hb
    go_wp2_with fail
    refine (K8.out _).mono ?_
    rintro e1 w9 ⟨rfl, hb⟩
    have HB9 := Lib.hid (HB8.out.trans (hb.mono HB8.out.size))
    clear hb
    go_wp2_with fail
    refine (K9.out _).mono ?_
    rintro e1 w10 ⟨rfl, hb⟩
    have HB10 := Lib.hid (HB9.out.trans (hb.mono HB9.out.size))
    clear hb
    go_wp2_with fail
    go_ret
    exact ⟨rfl, HB10.out⟩
  · obtain rfl : u = true := HU.2 (by omega)
    obtain rfl : v = false := by rw [← Bool.not_eq_true, HV]; omega
    obtain rfl : h = true := HW.2 (by omega)
    replace K4 := Lib.hid K4
    replace K5 := Lib.hid K5
    replace K6 := Lib.hid K6
    clear hq HU HV HW e1 e2 e3 hp hpp htop hl1 hl2 hl3 hm q hY hX htk
    go_enter Tryd.func8, Tryd.ntmps8
    go_wp2_with fail
    refine (shown6 w ht).mono ?_
    rintro e1 w1 ⟨rfl, hb⟩
    have HB1 := Lib.hid hb
    clear hb
    go_wp2_with fail
    refine (C0.out _).mono ?_
    rintro e1 wq ⟨rfl, rfl⟩
    go_wp2_with fail
    refine (K1.out _).mono ?_
    rintro e1 w2 ⟨rfl, hb⟩
    have HB2 := Lib.hid (HB1.out.trans (hb.mono HB1.out.size))
    clear hb
    go_wp2_with fail
    refine (K2.out _).mono ?_
    rintro e1 w3 ⟨rfl, hb⟩
    have HB3 := Lib.hid (HB2.out.trans (hb.mono HB2.out.size))
    clear hb
    go_wp2_with fail
    refine (K3.out _).mono ?_
    rintro e1 w4 ⟨rfl, hb⟩
    have HB4 := Lib.hid (HB3.out.trans (hb.mono HB3.out.size))
    clear hb
    go_wp2_with fail
    refine (K4.out _).mono ?_
    rintro e1 w5 ⟨rfl, hb⟩
    have HB5 := Lib.hid (HB4.out.trans (hb.mono HB4.out.size))
    clear hb
    go_wp2_with fail
    refine (K5.out _).mono ?_
    rintro e1 w6 ⟨rfl, hb⟩
    have HB6 := Lib.hid (HB5.out.trans (hb.mono HB5.out.size))
    clear hb
    go_wp2_with fail
    refine (K6.out _).mono ?_
    rintro e1 w7 ⟨rfl, hb⟩
    have HB7 := Lib.hid (HB6.out.trans (hb.mono HB6.out.size))
    clear hb
    go_wp2_with fail
    refine (K7.out _).mono ?_
    rintro e1 w8 ⟨rfl, hb⟩
    have HB8 := Lib.hid (HB7.out.trans (hb.mono HB7.out.size))
    clear hb
    go_wp2_with fail
    refine (K8.out _).mono ?_
    rintro e1 w9 ⟨rfl, hb⟩
    have HB9 := Lib.hid (HB8.out.trans (hb.mono HB8.out.size))
    clear hb
    go_wp2_with fail
    refine (K9.out _).mono ?_
    rintro e1 w10 ⟨rfl, hb⟩
    have HB10 := Lib.hid (HB9.out.trans (hb.mono HB9.out.size))
    clear hb
    go_wp2_with fail
    go_ret
    exact ⟨rfl, HB10.out⟩
  · obtain rfl : u = false := by rw [← Bool.not_eq_true, HU]; omega
    obtain rfl : v = true := HV.2 (by omega)
    obtain rfl : h = true := HW.2 (by omega)
    replace K4 := Lib.hid K4
    replace K5 := Lib.hid K5
    replace K6 := Lib.hid K6
    clear hq HU HV HW e1 e2 e3 hp hpp htop hl1 hl2 hl3 hm q hY hX htk
    go_enter Tryd.func8, Tryd.ntmps8
    go_wp2_with fail
    refine (shown6 w ht).mono ?_
    rintro e1 w1 ⟨rfl, hb⟩
    have HB1 := Lib.hid hb
    clear hb
    go_wp2_with fail
    refine (C0.out _).mono ?_
    rintro e1 wq ⟨rfl, rfl⟩
    go_wp2_with fail
    refine (K1.out _).mono ?_
    rintro e1 w2 ⟨rfl, hb⟩
    have HB2 := Lib.hid (HB1.out.trans (hb.mono HB1.out.size))
    clear hb
    go_wp2_with fail
    refine (K2.out _).mono ?_
    rintro e1 w3 ⟨rfl, hb⟩
    have HB3 := Lib.hid (HB2.out.trans (hb.mono HB2.out.size))
    clear hb
    go_wp2_with fail
    refine (K3.out _).mono ?_
    rintro e1 w4 ⟨rfl, hb⟩
    have HB4 := Lib.hid (HB3.out.trans (hb.mono HB3.out.size))
    clear hb
    go_wp2_with fail
    refine (K4.out _).mono ?_
    rintro e1 w5 ⟨rfl, hb⟩
    have HB5 := Lib.hid (HB4.out.trans (hb.mono HB4.out.size))
    clear hb
    go_wp2_with fail
    refine (K5.out _).mono ?_
    rintro e1 w6 ⟨rfl, hb⟩
    have HB6 := Lib.hid (HB5.out.trans (hb.mono HB5.out.size))
    clear hb
    go_wp2_with fail
    refine (K6.out _).mono ?_
    rintro e1 w7 ⟨rfl, hb⟩
    have HB7 := Lib.hid (HB6.out.trans (hb.mono HB6.out.size))
    clear hb
    go_wp2_with fail
    refine (K7.out _).mono ?_
    rintro e1 w8 ⟨rfl, hb⟩
    have HB8 := Lib.hid (HB7.out.trans (hb.mono HB7.out.size))
    clear hb
    go_wp2_with fail
    refine (K8.out _).mono ?_
    rintro e1 w9 ⟨rfl, hb⟩
    have HB9 := Lib.hid (HB8.out.trans (hb.mono HB8.out.size))
    clear hb
    go_wp2_with fail
    refine (K9.out _).mono ?_
    rintro e1 w10 ⟨rfl, hb⟩
    have HB10 := Lib.hid (HB9.out.trans (hb.mono HB9.out.size))
    clear hb
    go_wp2_with fail
    go_ret
    exact ⟨rfl, HB10.out⟩
end Go.Proofs.YtloaaaddbmcpdaaDoor
