/- Contracts of package prefix: Mask, firstBits, May, Compare. -/
import Derived.Lib.MinMax
import Derived.Test.YtohggpaffmcfoaaDoorBit
import Derived.Test.YtohggpaffmcfoaaDoorMath
namespace Go.Proofs.YtohggpaffmcfoaaDoor
open Go.RowKit
set_option linter.unusedVariables false
set_option maxRecDepth 100000
set_option linter.unusedSimpArgs false

theorem msk_int (t k : Nat) (h : t = 32 - k) : (4294967295 : Int) * 2 ^ t % 4294967296 = ((mskN k : Nat) : Int) := by
  rw [← shl_msk t k h, show (2 : Int) ^ t = ((2 ^ t : Nat) : Int) by rw [Int.natCast_pow]; rfl]
  omega
theorem mask_any (n : Int) (w : World) : Calls Tryd.prog 96 #[.int .i64 n] w fun e w' => e = .returned (.int .u32 (mskN (cl n) : Int)) ∧ w = w' := by
  have hm := Lib.hid (msk_int (32 - min (max n 0) 32).toNat (cl n) (by unfold cl; omega))
  go_enter Tryd.func96, Tryd.ntmps96
  go_wp2
  go_ret
  exact ⟨by rw [hm.out]; rfl, rfl⟩
theorem first_any (n : Int) (w : World) : Calls Tryd.prog 90 #[.int .i64 n] w fun e w' => ∃ B : Nat, e = .returned (.func (.func 97) #[] #[.pointer (some ⟨B, 0, none⟩)]) ∧ w'.cell? ⟨B, 0, none⟩ = some (.int .u32 (mskN (cl n) : Int)) ∧ Below w.heap.size w w' := by
  go_enter Tryd.func90, Tryd.ntmps90
  go_wp2_with fail
  refine (mask_any n _).mono ?_
  rintro e w1 ⟨rfl, rfl⟩
  go_wp2_with fail
  go_ret
  refine ⟨w.heap.size, rfl, ?_, (Below.refl _ _).alloc (Nat.le_refl _) _⟩
  simp [go_sem]
theorem bits_any (a k B : Nat) (w : World) (ha : (a : Int) ≤ 4294967295) (hk : k ≤ 32) (hc : w.cell? ⟨B, 0, none⟩ = some (.int .u32 (mskN k : Int))) :
    Calls Tryd.prog 97 #[.int .u32 a, .pointer (some ⟨B, 0, none⟩)] w fun e w' => e = .returned (.int .u32 (loN a k : Int)) ∧ w = w' := by
  have e := u32_and_nat a (mskN k) (by omega) (by have := msk_le k; omega)
  rw [and_msk a k (by omega) hk] at e
  have HE := Lib.hid e
  clear e
  go_enter Tryd.func97, Tryd.ntmps97
  go_wp2
  go_ret
  exact ⟨by rw [HE.out]; rfl, rfl⟩
set_option maxHeartbeats 1000000 in
theorem may_any (a : Nat) (n : Int) (w : World) (ha : (a : Int) ≤ 4294967295) :
    Calls Tryd.prog 83 #[.int .u32 a, .int .i64 n] w fun e w' => e = .returned (.int .i64 (mayI a n)) ∧ Below w.heap.size w w' := by
  by_cases h1 : n < 0
  · have HE : Hid (mayI a n = 1) := by show _ = _; unfold mayI; rw [if_pos (.inl h1)]
    go_enter Tryd.func83, Tryd.ntmps83
    go_wp2_with fail
    go_ret
    exact ⟨by rw [HE.out]; rfl, Below.refl _ _⟩
  · by_cases h2 : 32 < n
    · have HE : Hid (mayI a n = 1) := by show _ = _; unfold mayI; rw [if_pos (.inr h2)]
      go_enter Tryd.func83, Tryd.ntmps83
      go_wp2_with fail
      go_ret
      exact ⟨by rw [HE.out]; rfl, Below.refl _ _⟩
    · have hl := cl_le n
      have hn0 : 0 ≤ n := by omega
      have hn1 : n ≤ 32 := by omega
      by_cases h3 : loN a (cl n) = a
      · have HE : Hid (mayI a n = 0) := by show _ = _; unfold mayI; rw [if_neg (by omega), if_pos h3]
        have t1 : ((a : Int) != (a : Int)) = false := by simp
        have H3 := Lib.hid h3
        clear h3
        go_enter Tryd.func83, Tryd.ntmps83
        go_wp2_with fail
        refine (first_any n _).mono ?_
        rintro e w1 ⟨B, rfl, hc, hbel⟩
        have HB := Lib.hid hbel
        clear hbel
        go_wp2_with fail
        have c := bits_any a (cl n) B _ ha hl hc
        rw [H3.out] at c
        refine c.mono ?_
        rintro e w2 ⟨rfl, rfl⟩
        clear c
        go_wp2_with fail
        go_ret
        exact ⟨by rw [HE.out]; rfl, HB.out⟩
      · have HE : Hid (mayI a n = 8) := by show _ = _; unfold mayI; rw [if_neg (by omega), if_neg h3]
        have t1 : ((loN a (cl n) : Int) != (a : Int)) = true := by rw [bne_iff_ne]; omega
        clear h3
        go_enter Tryd.func83, Tryd.ntmps83
        go_wp2_with fail
        refine (first_any n _).mono ?_
        rintro e w1 ⟨B, rfl, hc, hbel⟩
        have HB := Lib.hid hbel
        clear hbel
        go_wp2_with fail
        refine (bits_any a (cl n) B _ ha hl hc).mono ?_
        rintro e w2 ⟨rfl, rfl⟩
        go_wp2_with fail
        go_ret
        exact ⟨by rw [HE.out]; rfl, HB.out⟩
/-! order -/
theorem nan_u32 (a : Nat) (w : World) : Calls Tryd.prog 98 #[.int .u32 a] w fun e w' => e = .returned (.bool false) ∧ w = w' := by
  have t1 : ((a : Int) != (a : Int)) = false := by simp
  go_enter Tryd.func98, Tryd.ntmps98
  go_wp2
  go_ret
  exact ⟨rfl, rfl⟩
theorem nan_int (a : Int) (w : World) : Calls Tryd.prog 99 #[.int .i64 a] w fun e w' => e = .returned (.bool false) ∧ w = w' := by
  have t1 : (a != a) = false := by simp
  go_enter Tryd.func99, Tryd.ntmps99
  go_wp2
  go_ret
  exact ⟨rfl, rfl⟩
def sgn (a b : Int) : Int := if a < b then -1 else if b < a then 1 else 0
theorem cmp_u32 (a b : Nat) (w : World) : Calls Tryd.prog 92 #[.int .u32 a, .int .u32 b] w fun e w' => e = .returned (.int .i64 (sgn a b)) ∧ w = w' := by
  rcases Nat.lt_trichotomy a b with h | h | h
  · have HE : Hid (sgn a b = -1) := by show _ = _; unfold sgn; rw [if_pos (by omega)]
    have t1 : decide (a < b) = true := by simpa using h
    clear h
    go_enter Tryd.func92, Tryd.ntmps92
    go_wp2_with fail
    refine (nan_u32 _ _).mono ?_
    rintro e w2 ⟨rfl, rfl⟩
    go_wp2_with fail
    refine (nan_u32 _ _).mono ?_
    rintro e w2 ⟨rfl, rfl⟩
    go_wp2_with fail
    go_ret
    exact ⟨by rw [HE.out]; rfl, rfl⟩
  · subst h
    have HE : Hid (sgn a a = 0) := by show _ = _; unfold sgn; rw [if_neg (by omega), if_neg (by omega)]
    have t1 : decide (a < a) = false := by simp
    go_enter Tryd.func92, Tryd.ntmps92
    go_wp2_with fail
    refine (nan_u32 _ _).mono ?_
    rintro e w2 ⟨rfl, rfl⟩
    go_wp2_with fail
    refine (nan_u32 _ _).mono ?_
    rintro e w2 ⟨rfl, rfl⟩
    go_wp2_with fail
    go_ret
    exact ⟨by rw [HE.out]; rfl, rfl⟩
  · have HE : Hid (sgn a b = 1) := by show _ = _; unfold sgn; rw [if_neg (by omega), if_pos (by omega)]
    have t1 : decide (a < b) = false := by simp; omega
    have t2 : decide (b < a) = true := by simpa using h
    clear h
    go_enter Tryd.func92, Tryd.ntmps92
    go_wp2_with fail
    refine (nan_u32 _ _).mono ?_
    rintro e w2 ⟨rfl, rfl⟩
    go_wp2_with fail
    refine (nan_u32 _ _).mono ?_
    rintro e w2 ⟨rfl, rfl⟩
    go_wp2_with fail
    go_ret
    exact ⟨by rw [HE.out]; rfl, rfl⟩
theorem cmp_int (a b : Int) (w : World) : Calls Tryd.prog 93 #[.int .i64 a, .int .i64 b] w fun e w' => e = .returned (.int .i64 (sgn a b)) ∧ w = w' := by
  rcases Int.lt_trichotomy a b with h | h | h
  · have HE : Hid (sgn a b = -1) := by show _ = _; unfold sgn; rw [if_pos (by omega)]
    go_enter Tryd.func93, Tryd.ntmps93
    go_wp2_with fail
    refine (nan_int _ _).mono ?_
    rintro e w2 ⟨rfl, rfl⟩
    go_wp2_with fail
    refine (nan_int _ _).mono ?_
    rintro e w2 ⟨rfl, rfl⟩
    go_wp2_with fail
    go_ret
    exact ⟨by rw [HE.out]; rfl, rfl⟩
  · subst h
    have HE : Hid (sgn a a = 0) := by show _ = _; unfold sgn; rw [if_neg (by omega), if_neg (by omega)]
    have t1 : decide (a < a) = false := by simp
    go_enter Tryd.func93, Tryd.ntmps93
    go_wp2_with fail
    refine (nan_int _ _).mono ?_
    rintro e w2 ⟨rfl, rfl⟩
    go_wp2_with fail
    refine (nan_int _ _).mono ?_
    rintro e w2 ⟨rfl, rfl⟩
    go_wp2_with fail
    go_ret
    exact ⟨by rw [HE.out]; rfl, rfl⟩
  · have HE : Hid (sgn a b = 1) := by show _ = _; unfold sgn; rw [if_neg (by omega), if_pos (by omega)]
    have h2 : ¬ a < b := by omega
    go_enter Tryd.func93, Tryd.ntmps93
    go_wp2_with fail
    refine (nan_int _ _).mono ?_
    rintro e w2 ⟨rfl, rfl⟩
    go_wp2_with fail
    refine (nan_int _ _).mono ?_
    rintro e w2 ⟨rfl, rfl⟩
    go_wp2_with fail
    go_ret
    exact ⟨by rw [HE.out]; rfl, rfl⟩
/-- the first of two numbers that is not 0 -/
theorem or_any (x y : Int) (B : Nat) (w : World) (hx : w.cell? ⟨B, 0, none⟩ = some (.int .i64 x)) (hy : w.cell? ⟨B, 1, none⟩ = some (.int .i64 y)) :
    Calls Tryd.prog 91 #[.slice (some ⟨B, 0, none⟩) 2 2] w fun e w' => e = .returned (.int .i64 (if x = 0 then y else x)) ∧ w = w' := by
  by_cases h1 : x = 0
  · subst h1
    rw [if_pos rfl]
    by_cases h2 : y = 0
    · subst h2
      go_enter Tryd.func91, Tryd.ntmps91
      go_wp2
      refine wp_loop_rounds 3 ?_
      rw [rounds_succ]; go_wp2
      rw [rounds_succ]; go_wp2
      rw [rounds_succ]; go_wp2
      go_ret
      exact ⟨rfl, rfl⟩
    · have t1 : (y != 0) = true := by rw [bne_iff_ne]; exact h2
      go_enter Tryd.func91, Tryd.ntmps91
      go_wp2
      refine wp_loop_rounds 3 ?_
      rw [rounds_succ]; go_wp2
      rw [rounds_succ]; go_wp2
      go_ret
      exact ⟨rfl, rfl⟩
  · have t1 : (x != 0) = true := by rw [bne_iff_ne]; exact h1
    rw [if_neg h1]
    go_enter Tryd.func91, Tryd.ntmps91
    go_wp2
    refine wp_loop_rounds 3 ?_
    rw [rounds_succ]; go_wp2
    go_ret
    exact ⟨rfl, rfl⟩
theorem sgn_cmp (a b : Nat) (m n : Int) : (if sgn a b = 0 then sgn m n else sgn a b) = cmpI a m b n := by
  have lt : ∀ x y : Int, x < y → sgn x y = -1 := fun x y h => by unfold sgn; rw [if_pos h]
  have gt : ∀ x y : Int, y < x → sgn x y = 1 := fun x y h => by unfold sgn; rw [if_neg (by omega), if_pos h]
  have eq : ∀ x : Int, sgn x x = 0 := fun x => by unfold sgn; rw [if_neg (by omega), if_neg (by omega)]
  rcases Nat.lt_trichotomy a b with h | h | h
  · rw [cmp_lt m n h, lt a b (by omega), if_neg (by omega)]
  · subst h
    rw [eq, if_pos rfl]
    rcases Int.lt_trichotomy m n with g | g | g
    · rw [lt m n g, cmp_eq_lt a g]
    · subst g
      rw [eq, cmp_same]
    · rw [gt m n g, cmp_eq_gt a g]
  · rw [cmp_gt m n h, gt a b (by omega), if_neg (by omega)]
set_option maxHeartbeats 1000000 in
theorem compare_any (a b : Nat) (m n : Int) (w : World) :
    Calls Tryd.prog 84 #[.int .u32 a, .int .i64 m, .int .u32 b, .int .i64 n] w fun e w' => e = .returned (.int .i64 (cmpI a m b n)) ∧ Below w.heap.size w w' := by
  have HE := Lib.hid (sgn_cmp a b m n)
  go_enter Tryd.func84, Tryd.ntmps84
  go_wp2_with fail
  refine (cmp_u32 a b _).mono ?_
  rintro e w2 ⟨rfl, rfl⟩
  go_wp2_with fail
  refine (cmp_int m n _).mono ?_
  rintro e w2 ⟨rfl, rfl⟩
  go_wp2_with fail
  have c := or_any (sgn a b) (sgn m n) w.heap.size (w.alloc (.cells #[.int .i64 (sgn a b), .int .i64 (sgn m n)] 3)) (by rw [World.cell?_alloc_mark]; rfl) (by rw [World.cell?_alloc_mark]; rfl)
  rw [HE.out] at c
  refine c.mono ?_
  clear c
  rintro e w2 ⟨rfl, rfl⟩
  go_wp2_with fail
  go_ret
  exact ⟨rfl, (Below.refl _ _).alloc (Nat.le_refl _) _⟩
end Go.Proofs.YtohggpaffmcfoaaDoor
