/- Contract of theseusref09.Size. -/
import Derived.Test.YtohggpaffmcfoaaDoorNetKit
import Derived.Test.YtohggpaffmcfoaaDoorBlk
import Derived.Test.YtohggpaffmcfoaaDoorRulM
import Derived.Deep.DeepCutAuto
import Derived.Deep.RegionHeld3
import Derived.BigQuiet
namespace Go.Proofs.YtohggpaffmcfoaaDoor
open Go.RowKit
set_option linter.unusedVariables false
set_option maxRecDepth 100000
set_option linter.unusedSimpArgs false

theorem rsize_any (v : Value) (N : Nt) (w : World) (hv : IsN w v N) (hs : szN N ≤ 1000000) :
    Calls Tryd.prog 46 #[v] w fun e w' => e = .returned (.int .i64 (szN N : Int)) ∧ Below w.heap.size w w' := by
  obtain ⟨A, c, rfl, hc, hm, hS⟩ := hv.slice
  obtain ⟨n, hn⟩ : ∃ n, N.length = n := ⟨_, rfl⟩
  rw [hn] at hc hS ⊢
  have HN := Lib.hid hn
  have hnm : (n : Int) ≤ 9223372036854775807 := by unfold maxLen at hm; omega
  have HS0 := Lib.hid (hS.bel ((Below.refl _ _).alloc (Nat.le_refl _) (.cells #[.slice A n c] 24)))
  have HB0 : Hid (Below w.heap.size w (w.alloc (.cells #[.slice A n c] 24))) := (Below.refl _ _).alloc (Nat.le_refl _) _
  have HK0 := Lib.hid (Blk.new w #[.slice A n c] 24)
  obtain ⟨g, hg⟩ : ∃ g, w.heap.size = g := ⟨_, rfl⟩
  have HGG := Lib.hid hg
  rw [hg] at HK0
  clear hv hS hn hc hm
  go_enter Tryd.func46, Tryd.ntmps46
  go_wp2
  clear hg
  generalize w.alloc (.cells #[.slice A n c] 24) = w1 at *
  have hc0 := HK0.out.cell 0 rfl
  go_loopw [3, 4] (fun x i wr => ∃ k : Nat, ∃ s : Nat, k ≤ n ∧ i = .int .i64 k ∧ x = .int .i64 s ∧ Hid (szN (N.take k) = s) ∧ wr = w1) (fun _ i _ => n - (intOf i).toNat)
  case atStart => exact ⟨0, 0, by omega, rfl, rfl, rfl, rfl⟩
  case round =>
    obtain ⟨k, s, hk, rfl, rfl, HZ, rfl⟩ := hrel
    by_cases hlt : k < n
    · have hkl : k < N.length := by rw [HN.out]; exact hlt
      have hki : (k : Int) < (n : Int) := by omega
      have hkz : (0 : Int) ≤ (k : Int) := by omega
      obtain ⟨ad, B, m, rfl, hcell, _, _, _⟩ := HS0.out.at_ k hkl
      have hz := szN_succ N k hkl
      have hle := szN_take_le N (k + 1)
      rw [HZ.out] at hz
      generalize N[k].length = L at *
      have hw : IntKind.i64.wrap ((s : Int) + (L : Int)) = ((s + L : Nat) : Int) := by rw [IntKind.wrap_i64]; omega
      have hw2 : wrap64 ((s : Int) + (L : Int)) = ((s + L : Nat) : Int) := (IntWalk.wrap64_in _ (by omega)).trans (by omega)
      have HZ2 := Lib.hid hz
      clear hz hle HZ
      go_wp2_with fail
      go_roundw
      case rel => exact ⟨k + 1, s + L, by omega, by go_num, rfl, HZ2, trivial⟩
      case measure => simp [intOf]; omega
    · obtain rfl : k = n := by omega
      have hall : N.take k = N := List.take_of_length_le (by rw [HN.out]; exact Nat.le_refl _)
      rw [hall] at HZ
      go_wp2_with fail
      go_ret
      exact ⟨by rw [HZ.out]; rfl, by rw [HGG.out] at HB0 ⊢; exact HB0.out⟩
end Go.Proofs.YtohggpaffmcfoaaDoor
