/- Contracts of package theseusref03 (the document's answers for layer 3). -/
import Derived.Test.YtlobajlodbdeiaaDoorCrc
namespace Go.Proofs.YtlobajlodbdeiaaDoor
open Go.RowKit
set_option linter.unusedVariables false
set_option linter.unusedSimpArgs false

theorem u32_and1 (x : Nat) (h : x ≤ 4294967295) : bits .and .u32 (x : Int) 1 = ((x % 2 : Nat) : Int) := by
  have := u32_and_nat x 1 (by omega) (by omega)
  rw [show (1 : Nat) = 2 ^ 1 - 1 from rfl, Nat.and_two_pow_sub_one_eq_mod] at this
  exact this
theorem u32_poly (x : Nat) (h : (x : Int) ≤ 4294967295) : bits .xor .u32 ((x : Int) / 2) 2197175160 = (((x / 2) ^^^ 2197175160 : Nat) : Int) := by
  have := u32_xor_nat (x / 2) 2197175160 (by omega) (by omega)
  rw [← this]
  rfl
theorem rstep_any (s c : Nat) (w : World) (hs : (s : Int) ≤ 4294967295) (hc : (c : Int) ≤ 255) :
    Calls Tryd.prog 39 #[.int .u32 s, .int .u8 c] w fun e w' => e = .returned (.int .u32 ((stepN s c : Nat) : Int)) ∧ w = w' := by
  have e1 := u32_xor_nat s c (by omega) (by omega)
  have l1 : s ^^^ c < 4294967296 := Nat.xor_lt_two_pow (n := 32) (by omega) (by omega)
  have HS : Hid (stepN s c = hfs 8 (s ^^^ c)) := rfl
  generalize s ^^^ c = x at *
  have hx : (x : Int) ≤ 4294967295 := by omega
  clear l1
  go_enter Tryd.func39, Tryd.ntmps39
  go_wp2
  go_loop [0, 5] (fun v i => ∃ k y : Nat, k ≤ 8 ∧ i = .int .i64 k ∧ v = .int .u32 y ∧ (y : Int) ≤ 4294967295 ∧ Hid (y = hfs k x)) (fun _ i => 8 - (intOf i).toNat)
  case atStart => exact ⟨0, x, by omega, rfl, rfl, hx, rfl⟩
  case round =>
    obtain ⟨k, y, hk, rfl, rfl, hy, HY⟩ := hrel
    clear e1
    by_cases hlt : k < 8
    · have ea := u32_and1 y (by omega)
      have ep := u32_poly y hy
      have hl := hf_lt y (by omega)
      by_cases ho : y % 2 = 1
      · have hz : hf y = (y / 2) ^^^ 2197175160 := by unfold hf; rw [if_pos ho]
        rw [← hz] at ep
        have HN : Hid (hf y = hfs (k + 1) x) := by show _ = _; rw [hfs, ← HY.out]
        clear hz
        generalize hf y = z at *
        have hz2 : (z : Int) ≤ 4294967295 := by omega
        have t1 : (((y % 2 : Nat) : Int) == 1) = true := beq_iff_eq.2 (by omega)
        have t2 : (((y : Int) % 2) == 1) = true := beq_iff_eq.2 (by omega)
        go_wp2
        go_round
        case rel => exact ⟨k + 1, z, by omega, by go_num, rfl, hz2, HN⟩
        case measure => simp [intOf]; omega
      · have HN : Hid (y / 2 = hfs (k + 1) x) := by show _ = _; rw [hfs, ← HY.out]; unfold hf; rw [if_neg ho]
        have t1 : (((y % 2 : Nat) : Int) == 1) = false := beq_eq_false_iff_ne.2 (by omega)
        have t2 : (((y : Int) % 2) == 1) = false := beq_eq_false_iff_ne.2 (by omega)
        go_wp2
        go_round
        case rel => exact ⟨k + 1, y / 2, by omega, by go_num, rfl, by omega, HN⟩
        case measure => simp [intOf]; omega
    · have hks : k = 8 := by omega
      subst hks
      go_wp2
      go_ret
      exact ⟨by rw [HS.out, ← HY.out]; rfl, rfl⟩
theorem u32_ones (s : Nat) (h : (s : Int) ≤ 4294967295) : bits .xor .u32 (s : Int) 4294967295 = ((flipN s : Nat) : Int) := by
  have := u32_xor_nat s 4294967295 (by omega) (by omega)
  rw [xor_ones s (by omega)] at this
  exact this
theorem rmore_core (s : Nat) (A : Option Addr) (n c : Nat) (l : List UInt8) (w : World) (hs : (s : Int) ≤ 4294967295) (hl : Hid (l.length = n)) (hnc : n ≤ c) (hcm : c ≤ maxLen) (hA : Hid (Has w A (vals l))) :
    Calls Tryd.prog 36 #[.int .u32 s, .slice A n c] w fun e w' => e = .returned (.int .u32 ((moreN s l : Nat) : Int)) ∧ w = w' := by
  unfold maxLen at hcm
  obtain ⟨R, hR⟩ : ∃ R, moreN s l = R := ⟨_, rfl⟩
  rw [hR]
  have HR := Lib.hid hR
  clear hR
  have e1 := u32_ones s hs
  go_enter Tryd.func36, Tryd.ntmps36
  go_wp2
  go_loop [0, 5] (fun x i => ∃ k y : Nat, k ≤ n ∧ i = .int .i64 k ∧ x = .int .u32 y ∧ (y : Int) ≤ 4294967295 ∧ Hid (y = runN (flipN s) (l.take k))) (fun _ i => n - (intOf i).toNat)
  case atStart => exact ⟨0, flipN s, by omega, rfl, rfl, by have := flipN_le s; omega, rfl⟩
  case round =>
    obtain ⟨k, y, hk, rfl, rfl, hy, HY⟩ := hrel
    by_cases hlt : k < n
    · have hkl : k < l.length := by rw [hl.out]; exact hlt
      obtain ⟨ad, rfl, hcell⟩ := hA.out.at_ (k := k) (by rw [vals_length]; exact hkl)
      rw [vals_at l k hkl] at hcell
      have HD : Hid (stepN y l[k].toNat = runN (flipN s) (l.take (k + 1))) := by
        show _ = _
        rw [HY.out, runN_take _ _ _ hkl]
      have hb2 : (l[k].toNat : Int) ≤ 255 := by have := l[k].toNat_lt; omega
      have hz : (stepN y l[k].toNat : Int) ≤ 4294967295 := by have := stepN_lt y l[k].toNat (by omega) l[k].toNat_lt; omega
      generalize l[k].toNat = b at *
      clear e1
      go_wp2_with fail
      refine (rstep_any y b _ hy hb2).mono ?_
      rintro e w' ⟨rfl, rfl⟩
      generalize stepN y b = z at *
      go_wp2_with fail
      go_round
      case rel => exact ⟨k + 1, z, by omega, by go_num, rfl, hz, HD⟩
      case measure => simp [intOf]; omega
    · have hks : k = n := by omega
      subst hks
      have e2 := u32_ones y hy
      have HE : Hid (R = flipN y) := by
        show _ = _
        rw [← HR.out, HY.out, ← hl.out, List.take_length]
        rfl
      clear e1
      go_wp2
      go_ret
      exact ⟨by rw [HE.out]; rfl, rfl⟩
theorem rmore_any (s : Nat) (v : Value) (l : List UInt8) (w : World) (hs : (s : Int) ≤ 4294967295) (hv : IsB w v l) :
    Calls Tryd.prog 36 #[.int .u32 s, v] w fun e w' => e = .returned (.int .u32 ((moreN s l : Nat) : Int)) ∧ w = w' := by
  obtain ⟨A, n, c, rfl, hnc, hcm, hl, hA⟩ := hv
  exact rmore_core s A n c l w hs hl hnc hcm hA
theorem rsum_any (v : Value) (l : List UInt8) (w : World) (hv : IsB w v l) :
    Calls Tryd.prog 27 #[v] w fun e w' => e = .returned (.int .u32 ((sumN l : Nat) : Int)) ∧ w = w' := by
  obtain ⟨A, n, c, rfl, hnc, hcm, hl, hA⟩ := hv
  have HX := Lib.hid hcm
  have HL := Lib.hid hl
  have HA := Lib.hid hA
  clear hcm hl hA
  go_enter Tryd.func27, Tryd.ntmps27
  go_wp2_with fail
  refine (rmore_core 0 A n c l _ (by omega) HL.out hnc HX.out HA.out).mono ?_
  rintro e w' ⟨rfl, rfl⟩
  rw [show moreN 0 l = sumN l from rfl]
  go_wp2_with fail
  go_ret
  exact ⟨rfl, rfl⟩
end Go.Proofs.YtlobajlodbdeiaaDoor
