/- Contracts of package theseusref09: Size, May, Step, Walk. -/
import Derived.Test.YtpfpkghihpcbkaaNetKit
import Derived.Test.YtpfpkghihpcbkaaRef08
import Derived.Test.YtpfpkghihpcbkaaRef08f
import Derived.Test.YtpfpkghihpcbkaaBlk
import Derived.Test.YtpfpkghihpcbkaaRulM
import Derived.Deep.DeepCutAuto
import Derived.Deep.RegionHeld3
import Derived.BigQuiet
namespace Go.Proofs.Ytpfpkghihpcbkaa
open Go.RowKit
set_option linter.unusedVariables false
set_option linter.unusedSimpArgs false

theorem rsize_any (v : Value) (N : Nt) (w : World) (hv : IsN w v N) (hs : szN N ≤ 1000000) :
    Calls Try.prog 17 #[v] w fun e w' => e = .returned (.int .i64 (szN N : Int)) ∧ Below w.heap.size w w' := by
  obtain ⟨A, c, rfl, hc, hm, hS⟩ := hv.slice
  obtain ⟨n, hn⟩ : ∃ n, N.length = n := ⟨_, rfl⟩
  rw [hn] at hc hS ⊢
  have HN := Lib.hid hn
  have hnm : (n : Int) ≤ 9223372036854775807 := by unfold maxLen at hm; omega
  have HS0 := Lib.hid (hS.bel ((Below.refl _ _).alloc (Nat.le_refl _) (.cells #[.slice A n c] 24)))
  have HB0 : Hid (Below w.heap.size w (w.alloc (.cells #[.slice A n c] 24))) := (Below.refl _ _).alloc (Nat.le_refl _) _
  have HK0 := Lib.hid (Blk.new w #[.slice A n c] 24)
  obtain ⟨g, hg⟩ : ∃ g, w.heap.size = g := ⟨_, rfl⟩
  have HGG := Lib.hid hg
  rw [hg] at HK0
  clear hv hS hn hc hm
  go_enter Try.func17, Try.ntmps17
  go_wp2
  clear hg
  generalize w.alloc (.cells #[.slice A n c] 24) = w1 at *
  have hc0 := HK0.out.cell 0 rfl
  go_loopw [3, 4] (fun x i wr => ∃ k : Nat, ∃ s : Nat, k ≤ n ∧ i = .int .i64 k ∧ x = .int .i64 s ∧ Hid (szN (N.take k) = s) ∧ wr = w1) (fun _ i _ => n - (intOf i).toNat)
  case atStart => exact ⟨0, 0, by omega, rfl, rfl, rfl, rfl⟩
  case round =>
    obtain ⟨k, s, hk, rfl, rfl, HZ, rfl⟩ := hrel
    by_cases hlt : k < n
    · have hkl : k < N.length := by rw [HN.out]; exact hlt
      have hki : (k : Int) < (n : Int) := by omega
      have hkz : (0 : Int) ≤ (k : Int) := by omega
      obtain ⟨ad, B, m, rfl, hcell, _, _, _⟩ := HS0.out.at_ k hkl
      have hz := szN_succ N k hkl
      have hle := szN_take_le N (k + 1)
      rw [HZ.out] at hz
      generalize N[k].length = L at *
      have hw : IntKind.i64.wrap ((s : Int) + (L : Int)) = ((s + L : Nat) : Int) := by rw [IntKind.wrap_i64]; omega
      have hw2 : wrap64 ((s : Int) + (L : Int)) = ((s + L : Nat) : Int) := (IntWalk.wrap64_in _ (by omega)).trans (by omega)
      have HZ2 := Lib.hid hz
      clear hz hle HZ
      go_wp2_with fail
      go_roundw
      case rel => exact ⟨k + 1, s + L, by omega, by go_num, rfl, HZ2, trivial⟩
      case measure => simp [intOf]; omega
    · obtain rfl : k = n := by omega
      have hall : N.take k = N := List.take_of_length_le (by rw [HN.out]; exact Nat.le_refl _)
      rw [hall] at HZ
      go_wp2_with fail
      go_ret
      exact ⟨by rw [HZ.out]; rfl, by rw [HGG.out] at HB0 ⊢; exact HB0.out⟩
/-- Step's answer is that of the node's table -/
theorem resO_st (N : Nt) (a k : Nat) (hk : k < N.length) : resO (stN N a (k : Int)) = nextT (findF N[k] a) := by rw [stN_at N a k hk, nextT_pair]
theorem rstep_any (v : Value) (N : Nt) (a : Nat) (u : Int) (w : World) (hv : IsN w v N) (ha : (a : Int) ≤ 4294967295) (hwf : WfN N) :
    Calls Try.prog 20 #[v, .int .u32 (a : Int), .int .i64 u] w fun e w' => e = .returned (.tuple #[.int .i64 (resO (stN N a u)).1, .bool (resO (stN N a u)).2]) ∧ Below w.heap.size w w' := by
  obtain ⟨A, c, rfl, hc, hm, hS⟩ := hv.slice
  obtain ⟨n, hn⟩ : ∃ n, N.length = n := ⟨_, rfl⟩
  rw [hn] at hc hS ⊢
  have HN := Lib.hid hn
  have HS0 := Lib.hid (hS.bel ((Below.refl _ _).alloc (Nat.le_refl _) (.cells #[.slice A n c] 24)))
  have HB0 : Hid (Below w.heap.size w (w.alloc (.cells #[.slice A n c] 24))) := (Below.refl _ _).alloc (Nat.le_refl _) _
  clear hv hS hn hc hm
  rcases (by omega : u < 0 ∨ (n : Int) ≤ u ∨ (0 ≤ u ∧ u < n)) with h | h | ⟨h1, h2⟩
  · have HE : Hid (resO (stN N a u) = (0, false)) := by show _ = _; rw [stN_low N a h]; rfl
    have t1 : decide (u < 0) = true := decide_eq_true h
    go_enter Try.func20, Try.ntmps20
    go_wp2_with fail
    go_ret2
    exact ⟨by rw [HE.out]; rfl, HB0.out⟩
  · have HE : Hid (resO (stN N a u) = (0, false)) := by show _ = _; rw [stN_high N a (by rw [HN.out]; exact h)]; rfl
    have t1 : decide (u < 0) = false := decide_eq_false (by omega)
    have t2 : decide (u ≥ (n : Int)) = true := decide_eq_true h
    have t3 : decide ((n : Int) ≤ u) = true := decide_eq_true h
    go_enter Try.func20, Try.ntmps20
    go_wp2_with fail
    go_ret2
    exact ⟨by rw [HE.out]; rfl, HB0.out⟩
  · obtain ⟨k, rfl⟩ := Int.eq_ofNat_of_zero_le h1
    have hk : k < N.length := by rw [HN.out]; omega
    have HE := Lib.hid (resO_st N a k hk)
    obtain ⟨ad, B, m, rfl, hcell, hlm, hmm, hr⟩ := HS0.out.at_ k hk
    have C := Lib.hid (rnextT_any _ N[k] a _ hr ha (hwf.at_ hk))
    have t1 : decide ((k : Int) < 0) = false := decide_eq_false (by omega)
    have t2 : decide ((k : Int) ≥ (n : Int)) = false := decide_eq_false (by omega)
    have t3 : decide ((n : Int) ≤ (k : Int)) = false := decide_eq_false (by omega)
    clear hr
    generalize nextT (findF N[k] a) = p at *
    generalize N[k].length = L at *
    go_enter Try.func20, Try.ntmps20
    go_wp2_with fail
    refine C.out.mono ?_
    rintro e1 w1 ⟨rfl, hb⟩
    have HB := Lib.hid (unbox hb)
    clear hb
    go_wp2_with fail
    go_ret2
    exact ⟨by rw [HE.out]; rfl, HB.out⟩
end Go.Proofs.Ytpfpkghihpcbkaa
