/- The walks of the laws of package theseuslaw05: AddrTurns. -/
import Derived.Test.YtjloiljiighghaaDoorL05
import Derived.Test.YtjloiljiighghaaDoorRef05
namespace Go.Proofs.YtjloiljiighghaaDoor
open Go.RowKit
set_option linter.unusedVariables false
set_option linter.unusedSimpArgs false

theorem bitLen_pow (j : Nat) (hj : j ≤ 31) : Lib.bitLen (2 ^ j) = j + 1 := by
  obtain ⟨h1, h2, h3⟩ := bitLen_bounds (2 ^ j) (Nat.pow_lt_pow_right (by omega) (by omega))
  have h4 : j < Lib.bitLen (2 ^ j) := (Nat.pow_lt_pow_iff_right (by omega)).1 h2
  have h5 : Lib.bitLen (2 ^ j) - 1 ≤ j := (Nat.pow_le_pow_iff_right (by omega)).1 (h3 (by omega))
  omega
theorem com_turn (a k : Nat) (hk : k ≤ 31) : com a (a ^^^ 2 ^ (31 - k)) = k := by
  have e : a ^^^ (a ^^^ 2 ^ (31 - k)) = 2 ^ (31 - k) := by rw [← Nat.xor_assoc, Nat.xor_self, Nat.zero_xor]
  rw [com, e, bitLen_pow _ (by omega)]
  omega
theorem bitF_in (a k : Nat) (hk : k ≤ 31) : bitF a (k : Int) = bitN a k := by
  rw [bitF, if_pos ⟨by omega, by omega⟩, Int.toNat_natCast]
set_option maxRecDepth 100000 in
set_option maxHeartbeats 1000000 in
theorem walkAddrTurns (a0 a1 : Int) (w : World) (ht : Hid (Tab w)) (w0 : (Lit.int .u32 a0).wf = true) (w1 : (Lit.int .u8 a1).wf = true) :
    Calls Tryd.prog 7 #[.int .u32 a0, .int .u8 a1] w fun e w' => e = .returned (.bool true) ∧ Below w.heap.size w w' := by
  obtain ⟨hl0, hh0⟩ := bounds_u32 w0
  obtain ⟨hl1, hh1⟩ := bounds_u8 w1
  obtain ⟨a, rfl⟩ := Int.eq_ofNat_of_zero_le hl0
  obtain ⟨i, rfl⟩ := Int.eq_ofNat_of_zero_le hl1
  clear w0 w1 hl0 hl1
  have ha : (a : Int) ≤ 4294967295 := by omega
  have hi : (i : Int) ≤ 255 := by omega
  obtain ⟨k, hk⟩ : ∃ k : Nat, ((i : Int) % 32) = (k : Int) := ⟨i % 32, by omega⟩
  have hk2 : (k : Int) ≤ 31 := by omega
  obtain ⟨j, hj⟩ : ∃ j : Nat, (31 : Int) - (k : Int) = (j : Int) := ⟨31 - k, by omega⟩
  have hj2 : (j : Int) ≤ 31 := by omega
  have hj3 : j = 31 - k := by omega
  have hx : bits .xor .u32 (a : Int) (2 ^ j % 4294967296) = ((a ^^^ 2 ^ j : Nat) : Int) := by
    have h1 : (2 : Nat) ^ j < 4294967296 := Nat.lt_of_lt_of_le (Nat.pow_lt_pow_right (by omega) (show j < 32 by omega)) (by decide)
    have h2 : (2 : Int) ^ j % 4294967296 = ((2 ^ j : Nat) : Int) := by
      rw [show (2 : Int) ^ j = ((2 ^ j : Nat) : Int) by rw [Int.natCast_pow]; rfl]
      exact Int.emod_eq_of_lt (Int.natCast_nonneg _) (Int.ofNat_lt.2 h1)
    rw [h2]
    exact u32_xor_nat _ _ (by omega) h1
  have hxl : a ^^^ 2 ^ j < 2 ^ 32 := xor_lt (by omega) (Nat.pow_lt_pow_right (by omega) (by omega))
  have hc := com_turn a k (by omega)
  rw [← hj3] at hc
  have hne : a ≠ a ^^^ 2 ^ j := fun h => by
    rw [← h] at hc
    have h1 : com a a = 32 := by rw [com, Nat.xor_self]; rfl
    omega
  obtain ⟨b, hb⟩ : ∃ b, a ^^^ 2 ^ j = b := ⟨_, rfl⟩
  rw [hb] at hx hxl hc hne
  clear hb
  have hbl : (b : Int) ≤ 4294967295 := by omega
  have hbit := com_not a b (by omega) hxl (by omega)
  rw [hc] at hbit
  have HP : Hid (txt a ≠ txt b) := fun h => hne (txt_inj (by omega) (by omega) h)
  have HC := Lib.hid hc
  obtain ⟨x, hx1⟩ : ∃ x, bitN a k = x := ⟨_, rfl⟩
  obtain ⟨y, hy1⟩ : ∃ y, bitN b k = y := ⟨_, rfl⟩
  have C1 : Hid (∀ w, Calls Tryd.prog 12 #[.int .u32 a, .int .i64 k] w fun e w' => e = .returned (.int .i64 (x : Int)) ∧ w = w') := fun w => by rw [← hx1]; exact bit_in a k w ha hk2
  have C2 : Hid (∀ w, Calls Tryd.prog 12 #[.int .u32 b, .int .i64 k] w fun e w' => e = .returned (.int .i64 (y : Int)) ∧ w = w') := fun w => by rw [← hy1]; exact bit_in b k w hbl hk2
  have C0 : Hid (∀ w, Calls Tryd.prog 16 #[.int .u32 a, .int .u32 b] w fun e w' => e = .returned (.int .i64 (k : Int)) ∧ w = w') := fun w => by rw [← hc]; exact common_any a b w ha hbl
  have t1 : ((x : Int) == (y : Int)) = false := by rw [beq_eq_false_iff_ne, ← hx1, ← hy1]; omega
  have t2 : ((x : Int) != (y : Int)) = true := by rw [bne, t1]; rfl
  clear hx1 hy1 hc hne hxl hbit hj3
  clear hh0 hh1
  go_enter Tryd.func7, Tryd.ntmps7
  go_wp2_with fail
  refine (shown5 w ht).mono ?_
  rintro e1 w1 ⟨rfl, hb1⟩
  have HB1 := Lib.hid hb1
  have HT1 := Lib.hid (ht.out.bel hb1)
  clear hb1
  go_wp2_with fail
  refine (C0.out _).mono ?_
  rintro e1 w2 ⟨rfl, rfl⟩
  go_wp2_with fail
  refine (C1.out _).mono ?_
  rintro e1 w2 ⟨rfl, rfl⟩
  go_wp2_with fail
  refine (C2.out _).mono ?_
  rintro e1 w2 ⟨rfl, rfl⟩
  go_wp2_with fail
  have c := print_any a w1 ha HT1
  obtain ⟨d, hd⟩ : ∃ d : ByteArray, ⟨(txt a).toArray⟩ = d := ⟨_, rfl⟩
  rw [hd] at c
  refine c.mono ?_
  rintro e1 w2 ⟨rfl, hb2⟩
  have HT2 := Lib.hid (HT1.out.bel hb2)
  have HB2 := Lib.hid (HB1.out.trans (hb2.mono HB1.out.size))
  clear c hb2
  go_wp2_with fail
  have c := print_any b w2 hbl HT2
  obtain ⟨f, hf⟩ : ∃ d : ByteArray, ⟨(txt b).toArray⟩ = d := ⟨_, rfl⟩
  rw [hf] at c
  refine c.mono ?_
  rintro e1 w3 ⟨rfl, hb3⟩
  have HB3 := Lib.hid (HB2.out.trans (hb3.mono HB2.out.size))
  have t3 := str_ne (d := d) (s := f) (fun h => HP.out (by rw [← hd, ← hf] at h; injection h with h; simpa using h))
  clear c hb3 hd hf
  go_wp2_with fail
  refine (bit_out a _ w3 ha (by omega)).mono ?_
  rintro e1 w2 ⟨rfl, rfl⟩
  go_wp2_with fail
  refine (bit_out a _ w3 ha (by omega)).mono ?_
  rintro e1 w2 ⟨rfl, rfl⟩
  go_wp2_with fail
  go_ret
  exact ⟨rfl, HB3.out⟩
end Go.Proofs.YtjloiljiighghaaDoor
