/- Contracts of package network, but for its ranges over a function: there, Size, May, Step, passed. -/
import Derived.Test.YtpfpkghihpcbkaaNetKit
import Derived.Test.YtpfpkghihpcbkaaTbl
import Derived.Test.YtpfpkghihpcbkaaRef09w
namespace Go.Proofs.Ytpfpkghihpcbkaa
open Go.RowKit
set_option linter.unusedVariables false
set_option linter.unusedSimpArgs false

/-- whether there is such a node -/
def thN (N : Nt) (u : Int) : Bool := decide (0 ≤ u) && decide (u < (N.length : Int))
theorem nthere_any (v : Value) (N : Nt) (u : Int) (w : World) (hv : IsN w v N) :
    Calls Try.prog 29 #[v, .int .i64 u] w fun e w' => e = .returned (.bool (thN N u)) ∧ Below w.heap.size w w' := by
  obtain ⟨A, c, rfl, hc, hm, hS⟩ := hv.slice
  obtain ⟨n, hn⟩ : ∃ n, N.length = n := ⟨_, rfl⟩
  unfold thN
  rw [hn] at hc hS ⊢
  have HB0 : Hid (Below w.heap.size w (w.alloc (.cells #[.slice A n c] 24))) := (Below.refl _ _).alloc (Nat.le_refl _) _
  clear hv hS hn hc hm
  by_cases h : 0 ≤ u
  · have t1 : decide (0 ≤ u) = true := decide_eq_true h
    go_enter Try.func29, Try.ntmps29
    go_wp2_with fail
    go_ret
    exact ⟨by rw [t1]; rfl, HB0.out⟩
  · have t1 : decide (0 ≤ u) = false := decide_eq_false h
    go_enter Try.func29, Try.ntmps29
    go_wp2_with fail
    go_ret
    exact ⟨rfl, HB0.out⟩
theorem nsize_any (v : Value) (N : Nt) (w : World) (hv : IsN w v N) (hs : szN N ≤ 1000000) :
    Calls Try.prog 16 #[v] w fun e w' => e = .returned (.int .i64 (szN N : Int)) ∧ Below w.heap.size w w' := by
  obtain ⟨A, c, rfl, hc, hm, hS⟩ := hv.slice
  obtain ⟨n, hn⟩ : ∃ n, N.length = n := ⟨_, rfl⟩
  rw [hn] at hc hS ⊢
  have HN := Lib.hid hn
  have hnm : (n : Int) ≤ 9223372036854775807 := by unfold maxLen at hm; omega
  have HS0 := Lib.hid (hS.bel ((Below.refl _ _).alloc (Nat.le_refl _) (.cells #[.slice A n c] 24)))
  have HB0 : Hid (Below w.heap.size w (w.alloc (.cells #[.slice A n c] 24))) := (Below.refl _ _).alloc (Nat.le_refl _) _
  have HK0 := Lib.hid (Blk.new w #[.slice A n c] 24)
  obtain ⟨g, hg⟩ : ∃ g, w.heap.size = g := ⟨_, rfl⟩
  have HGG := Lib.hid hg
  rw [hg] at HK0
  have q0 := HK0.out.cell 0 rfl
  clear hv hS hn hc hm
  go_enter Try.func16, Try.ntmps16
  go_wp2
  clear hg q0
  generalize w.alloc (.cells #[.slice A n c] 24) = w1 at *
  go_loopw [3, 9] (fun x i wr => ∃ k : Nat, ∃ s : Nat, k ≤ n ∧ i = .int .i64 k ∧ x = .int .i64 s ∧ Hid (szN (N.take k) = s) ∧ wr = w1) (fun _ i _ => n - (intOf i).toNat)
  case atStart => exact ⟨0, 0, by omega, rfl, rfl, rfl, rfl⟩
  case round =>
    obtain ⟨k, s, hk, rfl, rfl, HZ, rfl⟩ := hrel
    by_cases hlt : k < n
    · have hkl : k < N.length := by rw [HN.out]; exact hlt
      have hki : (k : Int) < (n : Int) := by omega
      have hkz : (0 : Int) ≤ (k : Int) := by omega
      obtain ⟨ad, B, m, rfl, hcell, _, _, _⟩ := HS0.out.at_ k hkl
      have hz := szN_succ N k hkl
      have hle := szN_take_le N (k + 1)
      rw [HZ.out] at hz
      generalize N[k].length = L at *
      have hw : IntKind.i64.wrap ((s : Int) + (L : Int)) = ((s + L : Nat) : Int) := by rw [IntKind.wrap_i64]; omega
      have hw2 : wrap64 ((s : Int) + (L : Int)) = ((s + L : Nat) : Int) := (IntWalk.wrap64_in _ (by omega)).trans (by omega)
      have HZ2 := Lib.hid hz
      clear hz hle HZ
      go_wp2_with fail
      go_roundw
      case rel => exact ⟨k + 1, s + L, by omega, by go_num, rfl, HZ2, trivial⟩
      case measure => simp [intOf]; omega
    · obtain rfl : k = n := by omega
      have hall : N.take k = N := List.take_of_length_le (by rw [HN.out]; exact Nat.le_refl _)
      rw [hall] at HZ
      go_wp2_with fail
      go_ret
      exact ⟨by rw [HZ.out]; rfl, by rw [HGG.out] at HB0 ⊢; exact HB0.out⟩
theorem nstep_any (v : Value) (N : Nt) (a : Nat) (u : Int) (w : World) (hv : IsN w v N) (ha : (a : Int) ≤ 4294967295) (hwf : WfN N) :
    Calls Try.prog 19 #[v, .int .u32 (a : Int), .int .i64 u] w fun e w' => e = .returned (.tuple #[.int .i64 (resO (stN N a u)).1, .bool (resO (stN N a u)).2]) ∧ Below w.heap.size w w' := by
  obtain ⟨A, c, rfl, hc, hm, hS⟩ := hv.slice
  obtain ⟨n, hn⟩ : ∃ n, N.length = n := ⟨_, rfl⟩
  rw [hn] at hc hS ⊢
  have HN := Lib.hid hn
  have HB0 : Hid (Below w.heap.size w (w.alloc (.cells #[.slice A n c] 24))) := (Below.refl _ _).alloc (Nat.le_refl _) _
  have HK0 := Lib.hid (Blk.new w #[.slice A n c] 24)
  have CT := Lib.hid (fun wx (hx : Below w.heap.size w wx) => nthere_any (.agg #[.slice A n c]) N u wx (hS.bel hx).mk)
  have HS1 := Lib.hid hS
  clear hv hS hn hc hm
  rcases (by omega : (u < 0 ∨ (n : Int) ≤ u) ∨ (0 ≤ u ∧ u < n)) with h | ⟨h1, h2⟩
  · have HE : Hid (resO (stN N a u) = (0, false)) := by
      show _ = _
      rcases h with h | h
      · rw [stN_low N a h]; rfl
      · rw [stN_high N a (by rw [HN.out]; exact h)]; rfl
    have ht : thN N u = false := by
      unfold thN
      rw [HN.out]
      rcases h with h | h
      · rw [decide_eq_false (by omega)]; rfl
      · rw [decide_eq_false (p := u < (n : Int)) (by omega), Bool.and_false]
    rw [ht] at CT
    clear ht h
    go_enter Try.func19, Try.ntmps19
    go_wp2_with fail
    refine (CT.out _ HB0.out).mono ?_
    rintro e1 w1 ⟨rfl, hb⟩
    have HB1 := Lib.hid (HB0.out.trans (hb.mono HB0.out.size))
    clear hb
    go_wp2_with fail
    go_ret2
    exact ⟨by rw [HE.out]; rfl, HB1.out⟩
  · obtain ⟨k, rfl⟩ := Int.eq_ofNat_of_zero_le h1
    have hk : k < N.length := by rw [HN.out]; omega
    have HE := Lib.hid (resO_st N a k hk)
    have ht : thN N (k : Int) = true := by
      unfold thN
      rw [HN.out, decide_eq_true h1, decide_eq_true h2]
      rfl
    rw [ht] at CT
    obtain ⟨ad, B, m, rfl, hlm, hmm, hr, hcl⟩ := HS1.out.all k hk
    have HCL := Lib.hid hcl
    have CN := Lib.hid (fun wx (hx : Below w.heap.size w wx) => tnext_any (.slice B N[k].length m) N[k] a wx (hr.bel hx) ha (hwf.at_ hk))
    clear hr ht hcl
    generalize nextT (findF N[k] a) = p at *
    generalize N[k].length = L at *
    go_enter Try.func19, Try.ntmps19
    go_wp2_with fail
    refine (CT.out _ HB0.out).mono ?_
    rintro e1 w1 ⟨rfl, hb⟩
    have HB1 := Lib.hid (HB0.out.trans (hb.mono HB0.out.size))
    have q0 := (HK0.out.bel hb).cell 0 rfl
    have q1 := HCL.out _ HB1.out
    have C := Lib.hid (CN.out _ HB1.out)
    clear hb CN HCL
    go_wp2_with fail
    refine C.out.mono ?_
    rintro e1 w2 ⟨rfl, hb⟩
    have HB2 := Lib.hid (HB1.out.trans (hb.mono HB1.out.size))
    clear hb
    go_wp2_with fail
    go_ret2
    exact ⟨by rw [HE.out]; rfl, HB2.out⟩
/-- the iterator: a closure over three boxes -/
theorem npassed_any (A : Option Addr) (n c : Nat) (a : Nat) (u : Int) (w : World) :
    Calls Try.prog 31 #[.agg #[.slice A n c], .int .u32 (a : Int), .int .i64 u] w fun e w' =>
      e = .returned (.func (.func 40) #[] #[.pointer (some ⟨w.heap.size + 2, 0, none⟩), .pointer (some ⟨w.heap.size, 0, none⟩), .pointer (some ⟨w.heap.size + 1, 0, none⟩)]) ∧
      w' = ((w.alloc (.cells #[.slice A n c] 24)).alloc (.cells #[.int .u32 (a : Int)] 25)).alloc (.cells #[.int .i64 u] 3) := by
  go_enter Try.func31, Try.ntmps31
  go_wp2_with fail
  go_ret
  exact ⟨rfl, rfl⟩
end Go.Proofs.Ytpfpkghihpcbkaa
