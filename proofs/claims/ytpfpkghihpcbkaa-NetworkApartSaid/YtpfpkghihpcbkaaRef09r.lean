/- Contract of package theseusref09: Row. -/
import Derived.Test.YtpfpkghihpcbkaaKit
import Derived.Deep.DeepCutAuto
import Derived.BigQuiet
namespace Go.Proofs.Ytpfpkghihpcbkaa
open Go.RowKit
set_option linter.unusedVariables false
set_option linter.unusedSimpArgs false

theorem take_next {l m : List Int} {k : Nat} (h1 : k < l.length) (h2 : k < m.length) (h : l.take k = m.take k) (e : l[k] = m[k]) : l.take (k + 1) = m.take (k + 1) := by
  rw [List.take_succ_eq_append_getElem h1, List.take_succ_eq_append_getElem h2, h, e]
theorem rrow_any (u v : Value) (l m : List Int) (w : World) (hu : IsI w u l) (hv : IsI w v m) :
    Calls Try.prog 18 #[u, v] w fun e w' => e = .returned (.bool (decide (l = m))) ∧ Below w.heap.size w w' := by
  obtain ⟨A, n, c, rfl, hn, hc, hl, hA⟩ := hu
  obtain ⟨B, n', c', rfl, hn', hc', hm, hB⟩ := hv
  have HL := Lib.hid hl
  have HM := Lib.hid hm
  have HA := Lib.hid hA
  have HB := Lib.hid hB
  have hnm : (n : Int) ≤ 9223372036854775807 := by unfold maxLen at hc; omega
  clear hl hm hA hB hn hc hn' hc'
  by_cases hne : n = n'
  · subst hne
    have t1 : ((n : Int) != (n : Int)) = false := by simp
    go_enter Try.func18, Try.ntmps18
    go_wp2_with fail
    clear t1
    go_loopw [5] (fun i wr => ∃ k : Nat, k ≤ n ∧ i = .int .i64 k ∧ Hid (l.take k = m.take k) ∧ Hid (Below w.heap.size w wr)) (fun i _ => n - (intOf i).toNat)
    case atStart => exact ⟨0, by omega, rfl, rfl, Below.refl _ _⟩
    case round =>
      obtain ⟨k, hk, rfl, HT, HBr⟩ := hrel
      by_cases hlt : k < n
      · have hkl : k < l.length := by rw [HL.out]; exact hlt
        have hkm : k < m.length := by rw [HM.out]; exact hlt
        have hki : (k : Int) < (n : Int) := by omega
        have hkz : (0 : Int) ≤ (k : Int) := by omega
        obtain ⟨ad, rfl, ha⟩ := (HA.out.bel HBr.out).at_ (k := k) (by rw [ints_length]; exact hkl)
        obtain ⟨bd, rfl, hb⟩ := (HB.out.bel HBr.out).at_ (k := k) (by rw [ints_length]; exact hkm)
        rw [ints_at l k hkl] at ha
        rw [ints_at m k hkm] at hb
        have ha2 : wr.drew.cell? (ad.add k) = some (.int .i64 l[k]) := ha
        have hb2 : wr.drew.cell? (bd.add k) = some (.int .i64 m[k]) := hb
        have hor : (l[k] ≠ m[k] ∧ Hid (decide (l = m) = false)) ∨ (l[k] = m[k] ∧ Hid (l.take (k + 1) = m.take (k + 1))) := by
          by_cases e : l[k] = m[k]
          · exact .inr ⟨e, take_next hkl hkm HT.out e⟩
          · exact .inl ⟨e, decide_eq_false (fun h => e (by subst h; rfl))⟩
        generalize l[k] = x at *
        generalize m[k] = y at *
        rcases hor with ⟨hxy, HE⟩ | ⟨rfl, HN⟩
        · have t2 : (x != y) = true := by rw [bne_iff_ne]; exact hxy
          go_wp2_with fail
          go_quiet (fail)
          go_wp2_with fail
          go_ret
          exact ⟨by rw [HE.out]; rfl, drewN_below HBr.out _⟩
        · have t2 : (x != x) = false := by simp
          go_wp2_with fail
          go_quiet (fail)
          go_wp2_with fail
          go_roundw
          case rel => exact ⟨k + 1, by omega, by go_num, HN, drewN_below HBr.out _⟩
          case measure => simp [intOf]; omega
      · obtain rfl : k = n := by omega
        have HE : Hid (decide (l = m) = true) := by
          refine decide_eq_true ?_
          have h := HT.out
          rw [List.take_of_length_le (by rw [HL.out]; exact Nat.le_refl _), List.take_of_length_le (by rw [HM.out]; exact Nat.le_refl _)] at h
          exact h
        go_wp2_with fail
        go_ret
        exact ⟨by rw [HE.out]; rfl, HBr.out⟩
  · have t1 : ((n : Int) != (n' : Int)) = true := by rw [bne_iff_ne]; omega
    have HE : Hid (decide (l = m) = false) := decide_eq_false (fun h => hne (by rw [← HL.out, ← HM.out, h]))
    go_enter Try.func18, Try.ntmps18
    go_wp2_with fail
    go_ret
    exact ⟨by rw [HE.out]; rfl, Below.refl _ _⟩
end Go.Proofs.Ytpfpkghihpcbkaa
