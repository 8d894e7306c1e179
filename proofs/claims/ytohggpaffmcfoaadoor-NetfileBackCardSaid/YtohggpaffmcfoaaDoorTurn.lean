/- A turned bit of a network's bytes; beginnings of them; a byte behind them. -/
import Derived.Test.YtohggpaffmcfoaaDoorMath
import Derived.Test.YtohggpaffmcfoaaDoorBase
import Derived.Laws.BitsAllLaws
namespace Go.Proofs.YtohggpaffmcfoaaDoor
open Go.RowKit
set_option linter.unusedVariables false
set_option linter.unusedSimpArgs false
set_option maxRecDepth 100000

theorem vals_turn (l : List UInt8) (p : Nat) (h : p / 8 < l.length) (b : UInt8) (hb : l[p / 8] = b) :
    (vals l).set (p / 8) (.int .u8 ((b ^^^ UInt8.ofNat (2 ^ (p % 8))).toNat : Int)) = vals (turnB l p) := by
  subst hb
  apply List.ext_getElem?
  intro j
  unfold turnB vals
  simp only [List.getElem?_set, List.getElem?_map, List.getElem?_modify, List.length_map]
  by_cases hj : p / 8 = j
  · subst hj
    simp [h]
  · simp [hj]
theorem low_pow (j : Nat) (h : j < 8) : (UInt8.ofNat (2 ^ j)).toNat = 2 ^ j := toNat_ofNat_lt (by have := Nat.pow_lt_pow_right (a := 2) (by omega) h; omega)
theorem xor_bit (b : UInt8) (j : Nat) (hj : j < 8) : bits .xor .u8 (b.toNat : Int) (IntKind.u8.wrap ((2 : Int) ^ j)) = ((b ^^^ UInt8.ofNat (2 ^ j)).toNat : Int) := by
  have h2 : (2 : Nat) ^ j < 256 := by have := Nat.pow_lt_pow_right (a := 2) (by omega) hj; omega
  have h : IntKind.u8.wrap ((2 : Int) ^ j) = ((UInt8.ofNat (2 ^ j)).toNat : Int) := by
    rw [low_pow j hj, IntKind.wrap_u8', show (2 : Int) ^ j = ((2 ^ j : Nat) : Int) from (Int.natCast_pow 2 j).symm]
    generalize 2 ^ j = z at *
    omega
  rw [h, u8_xor_nat b.toNat (UInt8.ofNat (2 ^ j)).toNat b.toNat_lt (UInt8.ofNat (2 ^ j)).toNat_lt, UInt8.toNat_xor]
theorem turn_take (B : List UInt8) (p : Nat) (hp : p < 8 * (B.length + 8)) : ∃ e, takeNf (turnB (frameN magicN B) p) = ([], e) ∧ (e = 5 ∨ e = 6) := by
  have hl : (turnB (frameN magicN B) p).length = B.length + 8 := by rw [turnB_length, frameN_length]
  have h := take_spoilt magicN magicN B (turnB (frameN magicN B) p) hl (2 ^ p) (levN_turn _ p (by rw [frameN_length]; exact hp)) (by
    by_cases hlow : p < 8 * (B.length + 4)
    · exact .inl ⟨p, 1, (Nat.mul_one _).symm, by omega, by omega, Nat.pow_lt_pow_right (by omega) hlow⟩
    · exact .inr ⟨2 ^ (p - 8 * (B.length + 4)), by rw [← Nat.pow_add]; congr 1; omega, Nat.two_pow_pos _⟩)
  unfold takeNf
  rcases h with h | h
  · exact ⟨5, by rw [h]; simp, .inl rfl⟩
  · exact ⟨6, by rw [h]; simp, .inr rfl⟩
/-- between magic and sum -/
theorem frame_mid (m : Nat) (l : List UInt8) : ((frameN m l).take ((frameN m l).length - 4)).drop 4 = l := by
  have h4 := be_length 4 m
  have h5 := be_length 4 (sumN (be 4 m ++ l))
  rw [frameN_length]
  unfold frameN sealN
  rw [List.take_append_of_le_length (by rw [List.length_append]; omega), List.take_of_length_le (by rw [List.length_append]; omega), List.drop_left' (by omega)]
theorem more_take {T : Nt} (h : mayN T = 0) (hw : ∀ l ∈ T, ∀ r ∈ l, r.at_ ≤ 4294967295) (b : UInt8) : takeNf (frameN magicN (bodyB T ++ [b])) = ([], 4) := by
  rw [takeNf_frame, bodyT_body h hw, if_pos (by simp)]
theorem cut_take {T : Nt} {F : List UInt8} (h : mayN T = 0) (hw : ∀ l ∈ T, ∀ r ∈ l, r.at_ ≤ 4294967295) (hp : putNf T = (F, 0)) {j : Nat} (hj : j < F.length) : ∃ e, takeNf (F.take j) = ([], e) ∧ e ≠ 0 := by
  have h1 := takeNf_cut h hw (j := j) (by rw [hp]; exact hj)
  rw [hp] at h1
  exact ⟨_, Prod.ext (takeNf_none h1) rfl, h1⟩
end Go.Proofs.YtohggpaffmcfoaaDoor
