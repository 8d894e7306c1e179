/- The walks of the laws of package theseuslaw03: CrcTurns. -/
import Derived.Test.YtknfaomgplodkaaDoorL03
import Derived.Test.YtknfaomgplodkaaDoorFrame
namespace Go.Proofs.YtknfaomgplodkaaDoor
open Go.RowKit
set_option linter.unusedVariables false
set_option linter.unusedSimpArgs false

theorem step_q (s c n : Nat) (w : World) (hs : (s : Int) ≤ 4294967295) (hc : (c : Int) ≤ 255) (ht : Hid (Tab w)) :
    Calls Tryd.prog 14 #[.int .u32 s, .int .u8 c] (w.drewN n) fun e w' => e = .returned (.int .u32 ((stepN s c : Nat) : Int)) ∧ w' = w.drewN n :=
  (step_any s c (w.drewN n) hs hc (ht.out.drewN n)).mono fun e w' ⟨h1, h2⟩ => ⟨h1, h2.symm⟩
theorem step_q0 (n : Nat) (w : World) (ht : Hid (Tab w)) :
    Calls Tryd.prog 14 #[.int .u32 0, .int .u8 0] (w.drewN n) fun e w' => e = .returned (.int .u32 0) ∧ w' = w.drewN n :=
  step_q 0 0 n w (by omega) (by omega) ht
theorem step_qs (s n : Nat) (w : World) (hs : (s : Int) ≤ 4294967295) (ht : Hid (Tab w)) :
    Calls Tryd.prog 14 #[.int .u32 s, .int .u8 ((s : Int) % 256)] (w.drewN n) fun e w' => e = .returned (.int .u32 ((s : Int) / 256)) ∧ w' = w.drewN n := by
  have h := step_q s (s % 256) n w hs (by omega) ht
  rw [stepN_own] at h
  exact h
set_option maxRecDepth 100000 in
set_option maxHeartbeats 1000000 in
theorem walkCrcTurns (a0 a1 : Int) (l2 : List Int) (w : World) (ht : Hid (Tab w)) (w0 : (Lit.int .u32 a0).wf = true) (w1 : (Lit.int .u32 a1).wf = true) (w2 : l2.length = 2 ∧ ∀ x ∈ l2, (Lit.int .u8 x).wf = true) :
    Calls Tryd.prog 5 #[.int .u32 a0, .int .u32 a1, .agg (l2.map (Value.int .u8)).toArray] w fun e w' => e = .returned (.bool true) ∧ Below w.heap.size w w' := by
  obtain ⟨hl0, hh0⟩ := bounds_u32 w0
  obtain ⟨hl1, hh1⟩ := bounds_u32 w1
  obtain ⟨s, rfl⟩ := Int.eq_ofNat_of_zero_le hl0
  obtain ⟨t, rfl⟩ := Int.eq_ofNat_of_zero_le hl1
  obtain ⟨hlen, hwf⟩ := w2
  obtain ⟨x, y, rfl⟩ : ∃ x y, l2 = [x, y] := by
    match l2, hlen with
    | [x, y], _ => exact ⟨x, y, rfl⟩
  obtain ⟨hlx, hhx⟩ := bounds_u8 (hwf x (by simp))
  obtain ⟨hly, hhy⟩ := bounds_u8 (hwf y (by simp))
  obtain ⟨c, rfl⟩ := Int.eq_ofNat_of_zero_le hlx
  obtain ⟨d, rfl⟩ := Int.eq_ofNat_of_zero_le hly
  clear w0 w1 hwf hlen hl0 hl1 hlx hly
  have hs : (s : Int) ≤ 4294967295 := by omega
  have ht' : (t : Int) ≤ 4294967295 := by omega
  have hc : (c : Int) ≤ 255 := by omega
  have hd : (d : Int) ≤ 255 := by omega
  have HE : Hid (stepN s c ^^^ stepN t d = stepN (s ^^^ t) (c ^^^ d)) := stepN_xor s t c d
  have e1 := u32_xor_nat s t (by omega) (by omega)
  have l1 : s ^^^ t < 4294967296 := Nat.xor_lt_two_pow (n := 32) (by omega) (by omega)
  have e2 := u8_xor_nat c d (by omega) (by omega)
  have l2 : c ^^^ d < 256 := Nat.xor_lt_two_pow (n := 8) (by omega) (by omega)
  have l3 := stepN_lt s c (by omega) (by omega)
  have l4 := stepN_lt t d (by omega) (by omega)
  have e3 := u32_xor_nat _ _ l3 l4
  rw [HE.out] at e3
  generalize s ^^^ t = st at *
  generalize c ^^^ d = cd at *
  have hst : (st : Int) ≤ 4294967295 := by omega
  have hcd : (cd : Int) ≤ 255 := by omega
  clear hh0 hh1 hhx hhy l1 l2 l3 l4
  go_enter Tryd.func5, Tryd.ntmps5
  go_wp2_with fail
  have hb0 : Below w.heap.size w (w.alloc (.cells #[.int .u8 c, .int .u8 d] 31)) := (Below.refl _ _).alloc (Nat.le_refl _) _
  have hcx : (w.alloc (.cells #[.int .u8 c, .int .u8 d] 31)).cell? ⟨w.heap.size, 0, none⟩ = some (.int .u8 c) := by rw [World.cell?_alloc_mark]; rfl
  have hcy : (w.alloc (.cells #[.int .u8 c, .int .u8 d] 31)).cell? ⟨w.heap.size, 1, none⟩ = some (.int .u8 d) := by rw [World.cell?_alloc_mark]; rfl
  have hsz : w.heap.size < (w.alloc (.cells #[.int .u8 c, .int .u8 d] 31)).heap.size := by simp
  have hT := ht.out.bel hb0
  generalize hW : w.alloc (.cells #[.int .u8 c, .int .u8 d] 31) = W at *
  refine (shown3 _ hT).mono ?_
  rintro e w1 ⟨rfl, hb1⟩
  have HB1 := Lib.hid (hb0.trans (hb1.mono hb0.size))
  have HT1 := Lib.hid (hT.bel hb1)
  rw [← hb1.cell (p := ⟨w.heap.size, 0, none⟩) hsz] at hcx
  rw [← hb1.cell (p := ⟨w.heap.size, 1, none⟩) hsz] at hcy
  clear hb1 hb0 hT hW hsz
  obtain ⟨g, hg⟩ : ∃ g, w.heap.size = g := ⟨_, rfl⟩
  rw [hg] at hcx hcy
  have HG := Lib.hid hg
  rw [hg]
  clear hg
  go_wp2_with fail
  go_quiet ((go_at_call 14; (first | (with_reducible exact Calls.quiet_of_same (step_q0 _ _ HT1)) | (with_reducible exact Calls.quiet_of_same (step_q _ _ _ _ (by assumption) (by assumption) HT1)) | (with_reducible exact Calls.quiet_of_same (step_qs _ _ _ (by assumption) HT1)))))
  go_wp2_with fail
  go_ret
  exact ⟨rfl, drewN_below HB1.out nq⟩
end Go.Proofs.YtknfaomgplodkaaDoor
