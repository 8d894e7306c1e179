/- Contracts of package num. -/
import Derived.Test.YtchbghnkfjandaaByte
import Derived.Test.YtchbghnkfjandaaNumMath
namespace Go.Proofs.Ytchbghnkfjandaa
open Go.RowKit
set_option linter.unusedVariables false
set_option linter.unusedSimpArgs false

def mayB (n : Int) : Bool := decide (1 ≤ n ∧ n ≤ 4)
theorem mayB_yes {n : Int} (h : 1 ≤ n ∧ n ≤ 4) : mayB n = true := by simp [mayB, h]
theorem mayB_no {n : Int} (h : ¬ (1 ≤ n ∧ n ≤ 4)) : mayB n = false := by simp only [mayB, decide_eq_false_iff_not]; exact h
theorem sizeMay_any (n : Int) (w : World) : Calls Try.prog 31 #[.int .i64 n] w fun e w' => e = .returned (.bool (mayB n)) ∧ w = w' := by
  by_cases h1 : 1 ≤ n <;> by_cases h2 : n ≤ 4
  all_goals
    go_enter Try.func31, Try.ntmps31
    go_wp2
    go_ret
    refine ⟨?_, rfl⟩
    simp [mayB, h1, h2]

/-- what Put holds after k rounds -/
def arr (s k n : Nat) : Array Value := (vals (List.replicate (s - k) 0 ++ be k n)).toArray
theorem arr_cell (s k n : Nat) (h : k < s) : (arr s k n)[s - 1 - k]? = some (.int .u8 0) := by
  simp only [arr, vals, List.getElem?_toArray, List.getElem?_map]
  rw [List.getElem?_append_left (by simp; omega), List.getElem?_replicate, if_pos (by omega)]
  rfl
theorem arr_set (s k n : Nat) (h : k < s) : (arr s k n).setIfInBounds (s - 1 - k) (.int .u8 ((n : Int) / 2 ^ (8 * k) % 256)) = arr s (k + 1) n := by
  have e : (n : Int) / 2 ^ (8 * k) % 256 = ((UInt8.ofNat (n / 256 ^ k)).toNat : Int) := by
    have h2 : (2 : Int) ^ (8 * k) = ((256 ^ k : Nat) : Int) := by
      rw [show (256 : Nat) ^ k = 2 ^ (8 * k) from by rw [Nat.pow_mul], Int.natCast_pow]
      rfl
    rw [toNat_ofNat_mod, h2]
    rfl
  rw [e, arr, arr, be_head]
  obtain ⟨d, rfl⟩ : ∃ d, s = k + 1 + d := ⟨s - (k + 1), by omega⟩
  have h1 : k + 1 + d - k = d + 1 := by omega
  have h2 : k + 1 + d - (k + 1) = d := by omega
  have h3 : k + 1 + d - 1 - k = d := by omega
  rw [h1, h2, h3, List.replicate_succ', List.append_assoc, vals_append, vals_append]
  simp only [List.setIfInBounds_toArray]
  rw [List.set_append_right _ _ (by simp [vals])]
  simp [vals]
theorem pow_wrap (s : Nat) (h1 : 1 ≤ s) (h2 : s ≤ 4) : wrap64 (2 ^ (8 * s)) = ((256 ^ s : Nat) : Int) := by
  have : s = 1 ∨ s = 2 ∨ s = 3 ∨ s = 4 := by omega
  rcases this with rfl | rfl | rfl | rfl <;> (rw [IntWalk.wrap64_in _ (by decide)]; rfl)
theorem put_core (n s : Nat) (w : World) (hn : (n : Int) < wrap64 (2 ^ (8 * s))) (h1 : 1 ≤ (s : Int)) (h2 : (s : Int) ≤ 4) :
    Calls Try.prog 20 #[.int .i64 n, .int .i64 s] w fun e w' => e = .returned (.tuple #[.slice (some ⟨w.heap.size, 0, none⟩) s s, .int .i64 0]) ∧ w.alloc (.cells (vals (be s n)).toArray 5) = w' := by
  have hb : mayB s = true := mayB_yes ⟨h1, h2⟩
  have hnn : 0 ≤ (n : Int) := by omega
  obtain ⟨i0, hi0, hz0, hz1, hz2⟩ := info_parts byte_info
  have hmk : ∀ W, (Instr.makeSlice 26 (.int .i64 (s : Int)) (.int .i64 (s : Int))).run Try.prog W = .ok (.slice (some ⟨W.heap.size, 0, none⟩) s s) (W.alloc (.cells (arr s 0 n) 5)) := fun W => by
    have := run_make (P := Try.prog) W 26 5 i0 (.int .u8 0) Try.underlying26 hi0 hz0 .i64 .i64 s s (by omega) (by omega) (by rw [hz2]; omega) (by omega)
    rw [this, hz1]
    have e : madeCells (Value.cells (.int .u8 0)) ((s : Int).toNat * 1) = arr s 0 n := by
      apply Array.toList_inj.1
      rw [show Value.cells (.int .u8 0) = #[.int .u8 0] from rfl, toList_madeCells_one]
      simp [arr, be, vals]
    rw [e, Int.toNat_natCast]
  clear hi0 hz0 hz1 hz2
  go_enter Try.func20, Try.ntmps20
  go_wp2_with (go_at_call 31; refine (sizeMay_any _ _).mono ?_; rintro e w' ⟨rfl, rfl⟩)
  clear hmk hb hn
  go_loopw [7, 25] (fun _ i wr => ∃ k : Nat, k ≤ s ∧ i = .int .i64 k ∧ wr = w.alloc (.cells (arr s k n) 5)) (fun _ i _ => s - (intOf i).toNat)
  case atStart => exact ⟨0, Nat.zero_le _, rfl, rfl⟩
  case round =>
    obtain ⟨k, hk, rfl, rfl⟩ := hrel
    by_cases hlt : k < s
    · have hcell : (w.alloc (.cells (arr s k n) 5)).cell? ⟨w.heap.size, s - 1 - k, none⟩ = some (.int .u8 0) := by
        rw [World.cell?_alloc_mark]
        exact arr_cell s k n hlt
      go_wp2
      go_roundw
      case rel => exact ⟨k + 1, by omega, by go_num, by rw [arr_set s k n hlt]⟩
      case measure => simp [intOf]; omega
    · go_wp2
      go_ret2
      have : k = s := by omega
      subst this
      exact ⟨rfl, by simp [arr]⟩
/-- Put of what fits: the bytes, in a block of their own. -/
theorem put_ok (n size : Int) (w : World) (h1 : 1 ≤ size) (h2 : size ≤ 4) (h0 : 0 ≤ n) (hn : n.toNat < 256 ^ size.toNat) :
    Calls Try.prog 20 #[.int .i64 n, .int .i64 size] w fun e w' => e = .returned (.tuple #[.slice (some ⟨w.heap.size, 0, none⟩) size.toNat size.toNat, .int .i64 0]) ∧ w.alloc (.cells (vals (be size.toNat n.toNat)).toArray 5) = w' := by
  obtain ⟨m, rfl⟩ := Int.eq_ofNat_of_zero_le h0
  obtain ⟨s, rfl⟩ := Int.eq_ofNat_of_zero_le (show 0 ≤ size by omega)
  rw [Int.toNat_natCast, Int.toNat_natCast] at hn ⊢
  refine put_core m s w ?_ h1 h2
  rw [pow_wrap s (by omega) (by omega)]
  exact Int.ofNat_lt.2 hn
/-- Put of what does not fit. -/
theorem put_no (n size : Int) (w : World) (h : ¬ (1 ≤ size ∧ size ≤ 4) ∨ n < 0 ∨ 256 ^ size.toNat ≤ n.toNat) :
    Calls Try.prog 20 #[.int .i64 n, .int .i64 size] w fun e w' => e = .returned (.tuple #[.slice none 0 0, .int .i64 1]) ∧ w = w' := by
  by_cases hs : 1 ≤ size ∧ size ≤ 4
  · have hb := mayB_yes hs
    obtain ⟨s, rfl⟩ := Int.eq_ofNat_of_zero_le (show 0 ≤ size by omega)
    rw [Int.toNat_natCast] at h
    by_cases h0 : n < 0
    · go_enter Try.func20, Try.ntmps20
      go_wp2_with (go_at_call 31; refine (sizeMay_any _ _).mono ?_; rintro e w' ⟨rfl, rfl⟩)
      go_ret2
      exact ⟨rfl, rfl⟩
    · obtain ⟨m, rfl⟩ := Int.eq_ofNat_of_zero_le (show 0 ≤ n by omega)
      have hge : wrap64 (2 ^ (8 * s)) ≤ (m : Int) := by
        rw [pow_wrap s (by omega) (by omega)]
        have h3 : 256 ^ s ≤ m := by
          rcases h with h | h | h
          · exact absurd hs h
          · omega
          · simpa using h
        exact Int.ofNat_le.2 h3
      clear h h0
      obtain ⟨hs1, hs2⟩ := hs
      go_enter Try.func20, Try.ntmps20
      go_wp2_with (go_at_call 31; refine (sizeMay_any _ _).mono ?_; rintro e w' ⟨rfl, rfl⟩)
      all_goals first | (go_ret2; exact ⟨rfl, rfl⟩) | skip
  · have hb := mayB_no hs
    clear h
    go_enter Try.func20, Try.ntmps20
    go_wp2_with (go_at_call 31; refine (sizeMay_any _ _).mono ?_; rintro e w' ⟨rfl, rfl⟩)
    go_ret2
    exact ⟨rfl, rfl⟩

theorem take_bad (A : Option Addr) (n c : Nat) (size : Int) (w : World) (h : ¬ (1 ≤ size ∧ size ≤ 4)) :
    Calls Try.prog 25 #[.slice A n c, .int .i64 size] w fun e w' => e = .returned (.tuple #[.int .i64 0, .int .i64 1]) ∧ w = w' := by
  have hb := mayB_no h
  clear h
  go_enter Try.func25, Try.ntmps25
  go_wp2_with (go_at_call 31; refine (sizeMay_any _ _).mono ?_; rintro e w' ⟨rfl, rfl⟩)
  go_ret2
  exact ⟨rfl, rfl⟩
theorem take_short (A : Option Addr) (n c : Nat) (size : Int) (w : World) (h1 : 1 ≤ size) (h2 : size ≤ 4) (hn : (n : Int) < size) :
    Calls Try.prog 25 #[.slice A n c, .int .i64 size] w fun e w' => e = .returned (.tuple #[.int .i64 0, .int .i64 2]) ∧ w = w' := by
  have hb := mayB_yes ⟨h1, h2⟩
  go_enter Try.func25, Try.ntmps25
  go_wp2_with (go_at_call 31; refine (sizeMay_any _ _).mono ?_; rintro e w' ⟨rfl, rfl⟩)
  go_ret2
  exact ⟨rfl, rfl⟩
theorem take_core (A : Option Addr) (n c : Nat) (l : List UInt8) (s : Nat) (w : World) (hl : l.length = n) (hn : n ≤ maxLen) (hA : Has w A (vals l)) (h1 : 1 ≤ (s : Int)) (h2 : (s : Int) ≤ 4) (hs : (s : Int) ≤ n) :
    Calls Try.prog 25 #[.slice A n c, .int .i64 s] w fun e w' => e = .returned (.tuple #[.int .i64 (val (l.take s)), .int .i64 0]) ∧ w = w' := by
  have hb := mayB_yes ⟨h1, h2⟩
  unfold maxLen at hn
  have HL := Lib.hid hl
  clear hl
  obtain ⟨ad, rfl, hc⟩ := hA (by rw [vals_length, HL.out]; omega)
  go_enter Try.func25, Try.ntmps25
  go_wp2_with (go_at_call 31; refine (sizeMay_any _ _).mono ?_; rintro e w' ⟨rfl, rfl⟩)
  clear hb
  go_loop [4, 6, 15] (fun n _ i => ∃ k : Nat, k ≤ s ∧ i = .int .i64 k ∧ n = .int .i64 (val (l.take k))) (fun _ _ i => s - (intOf i).toNat)
  case atStart => exact ⟨0, Nat.zero_le _, rfl, rfl⟩
  case round =>
    obtain ⟨k, hk, rfl, rfl⟩ := hrel
    by_cases hlt : k < s
    · have hkl : k < l.length := by rw [HL.out]; omega
      have hcell : w.cell? (ad.add k) = some (.int .u8 (l[k].toNat : Int)) := hc k _ (by rw [List.getElem?_eq_getElem (by rw [vals_length]; exact hkl), vals_at])
      have hv := val_take_lt l k
      have hv2 : val (l.take k) < 16777216 := Nat.lt_of_lt_of_le hv (Nat.le_trans (Nat.pow_le_pow_right (by omega) (show k ≤ 3 by omega)) (by decide))
      have hby := l[k].toNat_lt
      clear hc hv
      go_wp2
      go_round
      case rel =>
        refine ⟨k + 1, by omega, by go_num, ?_⟩
        have e : ((val (l.take k) : Int) * 256) = ((val (l.take k) * 256 : Nat) : Int) := by omega
        rw [e, i64_or_nat _ _ (by omega) (by omega), or_byte _ _ (by omega), val_take_succ l k hkl]
      case measure => simp [intOf]; omega
    · go_wp2
      go_ret2
      have : k = s := by omega
      subst this
      exact ⟨rfl, rfl⟩
/-- Take of bytes that are enough. -/
theorem take_ok (A : Option Addr) (n c : Nat) (l : List UInt8) (size : Int) (w : World) (hl : l.length = n) (hn : n ≤ maxLen) (hA : Has w A (vals l)) (h1 : 1 ≤ size) (h2 : size ≤ 4) (hs : size ≤ n) :
    Calls Try.prog 25 #[.slice A n c, .int .i64 size] w fun e w' => e = .returned (.tuple #[.int .i64 (val (l.take size.toNat)), .int .i64 0]) ∧ w = w' := by
  obtain ⟨s, rfl⟩ := Int.eq_ofNat_of_zero_le (show 0 ≤ size by omega)
  rw [Int.toNat_natCast]
  exact take_core A n c l s w hl hn hA h1 h2 hs

/-- what Put tells, whatever it is asked -/
def putS (n size : Int) : List UInt8 × Int := if (1 ≤ size ∧ size ≤ 4) ∧ 0 ≤ n ∧ n.toNat < 256 ^ size.toNat then (be size.toNat n.toNat, 0) else ([], 1)
theorem put_any (n size : Int) (w : World) : Calls Try.prog 20 #[.int .i64 n, .int .i64 size] w fun e w' =>
    ∃ v, e = .returned (.tuple #[v, .int .i64 (putS n size).2]) ∧ IsB w' v (putS n size).1 ∧ Below w.heap.size w w' := by
  by_cases h : (1 ≤ size ∧ size ≤ 4) ∧ 0 ≤ n ∧ n.toNat < 256 ^ size.toNat
  · rw [putS, if_pos h]
    refine (put_ok n size w h.1.1 h.1.2 h.2.1 h.2.2).mono ?_
    rintro e w' ⟨rfl, rfl⟩
    exact ⟨_, rfl, IsB.new _ _ _ _ _ (be_length _ _) (by unfold maxLen; omega), (Below.refl _ _).alloc (Nat.le_refl _) _⟩
  · rw [putS, if_neg h]
    refine (put_no n size w ?_).mono ?_
    · by_cases h1 : 1 ≤ size ∧ size ≤ 4
      · right
        by_cases h2 : n < 0
        · exact .inl h2
        · right
          by_cases h3 : 256 ^ size.toNat ≤ n.toNat
          · exact h3
          · exact absurd ⟨h1, by omega, by omega⟩ h
      · exact .inl h1
    · rintro e w' ⟨rfl, rfl⟩
      exact ⟨_, rfl, IsB.nil_ _, Below.refl _ _⟩
/-- what Take tells -/
def takeS (l : List UInt8) (size : Int) : Int × Int := if 1 ≤ size ∧ size ≤ 4 then (if (l.length : Int) < size then (0, 2) else ((val (l.take size.toNat) : Int), 0)) else (0, 1)
theorem take_any (v : Value) (l : List UInt8) (size : Int) (w : World) (hv : IsB w v l) : Calls Try.prog 25 #[v, .int .i64 size] w fun e w' =>
    e = .returned (.tuple #[.int .i64 (takeS l size).1, .int .i64 (takeS l size).2]) ∧ w = w' := by
  obtain ⟨A, n, c, rfl, hnc, hcm, hl, hA⟩ := hv
  by_cases h : 1 ≤ size ∧ size ≤ 4
  · by_cases h2 : (l.length : Int) < size
    · rw [takeS, if_pos h, if_pos h2]
      exact take_short A n c size w h.1 h.2 (by omega)
    · rw [takeS, if_pos h, if_neg h2]
      exact take_ok A n c l size w hl (by omega) hA h.1 h.2 (by omega)
  · rw [takeS, if_neg h]
    exact take_bad A n c size w h

/-! Row -/
end Go.Proofs.Ytchbghnkfjandaa
