/- Contract of slices.Min at ints. -/
import Derived.Test.YtpfpkghihpcbkaaLeast
import Derived.Test.YtpfpkghihpcbkaaKit
import Derived.Lib.MinMax
import Derived.WalkMore
import Derived.Scope
import Derived.Deep.DeepCutAuto
namespace Go.Proofs.Ytpfpkghihpcbkaa
open Go.RowKit
set_option linter.unusedVariables false
set_option linter.unusedSimpArgs false

theorem minL_one {l : List Int} (h : 0 < l.length) : minL (l.take 1) = l[0] := by
  cases l with
  | nil => simp at h
  | cons x r => rfl
theorem minL_succ {l : List Int} {k : Nat} (h1 : 1 ≤ k) (h : k < l.length) : minL (l.take (k + 1)) = min (minL (l.take k)) l[k] := by
  cases l with
  | nil => simp at h
  | cons x r =>
    obtain ⟨j, rfl⟩ : ∃ j, k = j + 1 := ⟨k - 1, by omega⟩
    have hj : j < r.length := by simpa using h
    show (r.take (j + 1)).foldl min x = min ((r.take j).foldl min x) (r[j])
    rw [List.take_succ_eq_append_getElem hj, List.foldl_append]
    rfl
set_option maxHeartbeats 2000000 in
theorem nmin_any (v : Value) (l : List Int) (w : World) (hv : IsI w v l) (hne : 0 < l.length) :
    Calls Try.prog 34 #[v] w fun e w' => e = .returned (.int .i64 (minL l)) ∧ w' = w := by
  obtain ⟨A, n, c, rfl, hc, hm, hl, hA⟩ := hv
  have HA := Lib.hid hA
  have HL := Lib.hid hl
  have hnm : (n : Int) ≤ 9223372036854775807 := by unfold maxLen at hm; omega
  have hn1 : 1 ≤ (n : Int) := by omega
  have hzl : 0 < (ints l).length := by rw [ints_length]; exact hne
  have t1 : decide ((n : Int) < 1) = false := decide_eq_false (by omega)
  have t2 : decide (n < 1) = false := decide_eq_false (by omega)
  have hzi : (0 : Int) < (n : Int) := by omega
  obtain ⟨ad, rfl, hcell⟩ := hA.at_ hzl
  rw [ints_at l 0 hne] at hcell
  rw [addr_zero] at hcell
  have HE1 := Lib.hid (minL_one hne)
  clear hA hl hc hm hzl
  go_enter Try.func34, Try.ntmps34
  go_wp2
  clear hcell
  go_loopw [3, 4] (fun x i wr => ∃ k : Nat, 1 ≤ k ∧ k ≤ n ∧ i = .int .i64 k ∧ ∃ m : Int, x = .int .i64 m ∧ Hid (minL (l.take k) = m) ∧ wr = w) (fun _ i _ => n - (intOf i).toNat)
  case atStart => exact ⟨1, by omega, by omega, rfl, _, rfl, HE1, rfl⟩
  case round =>
    obtain ⟨k, hk1, hk, rfl, m, rfl, HM, rfl⟩ := hrel
    by_cases hlt : k < n
    · have hkl : k < l.length := by rw [HL.out]; exact hlt
      have hki : (k : Int) < (n : Int) := by omega
      have hkz : (0 : Int) ≤ (k : Int) := by omega
      obtain ⟨ad', e, hcell⟩ := HA.out.at_ (by rw [ints_length]; exact hkl : k < (ints l).length)
      injection e with e
      subst e
      rw [ints_at l k hkl] at hcell
      have hs := minL_succ hk1 hkl
      rw [HM.out] at hs
      generalize l[k] = y at *
      have HS := Lib.hid hs
      clear hs HM
      go_wp2_with fail
      go_roundw
      case rel => exact ⟨k + 1, by omega, by omega, by go_num, _, rfl, HS, trivial⟩
      case measure => simp [intOf]; omega
    · obtain rfl : k = n := by omega
      have hall : l.take k = l := List.take_of_length_le (by rw [HL.out]; exact Nat.le_refl _)
      rw [hall] at HM
      go_wp2_with fail
      go_ret
      exact ⟨by rw [HM.out]; rfl, rfl⟩
end Go.Proofs.Ytpfpkghihpcbkaa
