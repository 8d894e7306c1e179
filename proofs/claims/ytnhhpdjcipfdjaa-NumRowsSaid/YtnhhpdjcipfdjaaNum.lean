/- Contracts of package num. -/
import Derived.Test.YtnhhpdjcipfdjaaKit
import Derived.Test.YtnhhpdjcipfdjaaNumMath
namespace Go.Proofs.Ytnhhpdjcipfdjaa
open Go.RowKit
set_option linter.unusedVariables false
set_option linter.unusedSimpArgs false

def mayB (n : Int) : Bool := decide (1 ≤ n ∧ n ≤ 4)
theorem mayB_yes {n : Int} (h : 1 ≤ n ∧ n ≤ 4) : mayB n = true := by simp [mayB, h]
theorem mayB_no {n : Int} (h : ¬ (1 ≤ n ∧ n ≤ 4)) : mayB n = false := by simp only [mayB, decide_eq_false_iff_not]; exact h
theorem sizeMay_any (n : Int) (w : World) : Calls Try.prog 18 #[.int .i64 n] w fun e w' => e = .returned (.bool (mayB n)) ∧ w = w' := by
  by_cases h1 : 1 ≤ n <;> by_cases h2 : n ≤ 4
  all_goals
    go_enter Try.func18, Try.ntmps18
    go_wp2
    go_ret
    refine ⟨?_, rfl⟩
    simp [mayB, h1, h2]
theorem byte_info : (Try.prog.info? 5).map (fun i => (i.zero, i.size, i.bytes)) = some (some (.int .u8 0), 1, 1) := by kernel_rfl

/-- what Put holds after k rounds -/
def arr (s k n : Nat) : Array Value := (vals (List.replicate (s - k) 0 ++ be k n)).toArray
theorem arr_cell (s k n : Nat) (h : k < s) : (arr s k n)[s - 1 - k]? = some (.int .u8 0) := by
  simp only [arr, vals, List.getElem?_toArray, List.getElem?_map]
  rw [List.getElem?_append_left (by simp; omega), List.getElem?_replicate, if_pos (by omega)]
  rfl
theorem arr_set (s k n : Nat) (h : k < s) : (arr s k n).setIfInBounds (s - 1 - k) (.int .u8 ((n : Int) / 2 ^ (8 * k) % 256)) = arr s (k + 1) n := by
  have e : (n : Int) / 2 ^ (8 * k) % 256 = ((UInt8.ofNat (n / 256 ^ k)).toNat : Int) := by
    have h2 : (2 : Int) ^ (8 * k) = ((256 ^ k : Nat) : Int) := by
      rw [show (256 : Nat) ^ k = 2 ^ (8 * k) from by rw [Nat.pow_mul], Int.natCast_pow]
      rfl
    rw [toNat_ofNat_mod, h2]
    rfl
  rw [e, arr, arr, be_head]
  obtain ⟨d, rfl⟩ : ∃ d, s = k + 1 + d := ⟨s - (k + 1), by omega⟩
  have h1 : k + 1 + d - k = d + 1 := by omega
  have h2 : k + 1 + d - (k + 1) = d := by omega
  have h3 : k + 1 + d - 1 - k = d := by omega
  rw [h1, h2, h3, List.replicate_succ', List.append_assoc, vals_append, vals_append]
  simp only [List.setIfInBounds_toArray]
  rw [List.set_append_right _ _ (by simp [vals])]
  simp [vals]
theorem pow_wrap (s : Nat) (h1 : 1 ≤ s) (h2 : s ≤ 4) : wrap64 (2 ^ (8 * s)) = ((256 ^ s : Nat) : Int) := by
  have : s = 1 ∨ s = 2 ∨ s = 3 ∨ s = 4 := by omega
  rcases this with rfl | rfl | rfl | rfl <;> (rw [IntWalk.wrap64_in _ (by decide)]; rfl)
theorem put_core (n s : Nat) (w : World) (hn : (n : Int) < wrap64 (2 ^ (8 * s))) (h1 : 1 ≤ (s : Int)) (h2 : (s : Int) ≤ 4) :
    Calls Try.prog 11 #[.int .i64 n, .int .i64 s] w fun e w' => e = .returned (.tuple #[.slice (some ⟨w.heap.size, 0, none⟩) s s, .int .i64 0]) ∧ w.alloc (.cells (vals (be s n)).toArray 5) = w' := by
  have hb : mayB s = true := mayB_yes ⟨h1, h2⟩
  have hnn : 0 ≤ (n : Int) := by omega
  obtain ⟨i0, hi0, hz0, hz1, hz2⟩ := info_parts byte_info
  have hmk : ∀ W, (Instr.makeSlice 23 (.int .i64 (s : Int)) (.int .i64 (s : Int))).run Try.prog W = .ok (.slice (some ⟨W.heap.size, 0, none⟩) s s) (W.alloc (.cells (arr s 0 n) 5)) := fun W => by
    have := run_make (P := Try.prog) W 23 5 i0 (.int .u8 0) Try.underlying23 hi0 hz0 .i64 .i64 s s (by omega) (by omega) (by rw [hz2]; omega) (by omega)
    rw [this, hz1]
    have e : madeCells (Value.cells (.int .u8 0)) ((s : Int).toNat * 1) = arr s 0 n := by
      apply Array.toList_inj.1
      rw [show Value.cells (.int .u8 0) = #[.int .u8 0] from rfl, toList_madeCells_one]
      simp [arr, be, vals]
    rw [e, Int.toNat_natCast]
  clear hi0 hz0 hz1 hz2
  go_enter Try.func11, Try.ntmps11
  go_wp2_with (go_at_call 18; refine (sizeMay_any _ _).mono ?_; rintro e w' ⟨rfl, rfl⟩)
  clear hmk hb hn
  go_loopw [7, 25] (fun _ i wr => ∃ k : Nat, k ≤ s ∧ i = .int .i64 k ∧ wr = w.alloc (.cells (arr s k n) 5)) (fun _ i _ => s - (intOf i).toNat)
  case atStart => exact ⟨0, Nat.zero_le _, rfl, rfl⟩
  case round =>
    obtain ⟨k, hk, rfl, rfl⟩ := hrel
    by_cases hlt : k < s
    · have hcell : (w.alloc (.cells (arr s k n) 5)).cell? ⟨w.heap.size, s - 1 - k, none⟩ = some (.int .u8 0) := by
        rw [World.cell?_alloc_mark]
        exact arr_cell s k n hlt
      go_wp2
      go_roundw
      case rel => exact ⟨k + 1, by omega, by go_num, by rw [arr_set s k n hlt]⟩
      case measure => simp [intOf]; omega
    · go_wp2
      go_ret2
      have : k = s := by omega
      subst this
      exact ⟨rfl, by simp [arr]⟩
/-- Put of what fits: the bytes, in a block of their own. -/
theorem put_ok (n size : Int) (w : World) (h1 : 1 ≤ size) (h2 : size ≤ 4) (h0 : 0 ≤ n) (hn : n.toNat < 256 ^ size.toNat) :
    Calls Try.prog 11 #[.int .i64 n, .int .i64 size] w fun e w' => e = .returned (.tuple #[.slice (some ⟨w.heap.size, 0, none⟩) size.toNat size.toNat, .int .i64 0]) ∧ w.alloc (.cells (vals (be size.toNat n.toNat)).toArray 5) = w' := by
  obtain ⟨m, rfl⟩ := Int.eq_ofNat_of_zero_le h0
  obtain ⟨s, rfl⟩ := Int.eq_ofNat_of_zero_le (show 0 ≤ size by omega)
  rw [Int.toNat_natCast, Int.toNat_natCast] at hn ⊢
  refine put_core m s w ?_ h1 h2
  rw [pow_wrap s (by omega) (by omega)]
  exact Int.ofNat_lt.2 hn
/-- Put of what does not fit. -/
theorem put_no (n size : Int) (w : World) (h : ¬ (1 ≤ size ∧ size ≤ 4) ∨ n < 0 ∨ 256 ^ size.toNat ≤ n.toNat) :
    Calls Try.prog 11 #[.int .i64 n, .int .i64 size] w fun e w' => e = .returned (.tuple #[.slice none 0 0, .int .i64 1]) ∧ w = w' := by
  by_cases hs : 1 ≤ size ∧ size ≤ 4
  · have hb := mayB_yes hs
    obtain ⟨s, rfl⟩ := Int.eq_ofNat_of_zero_le (show 0 ≤ size by omega)
    rw [Int.toNat_natCast] at h
    by_cases h0 : n < 0
    · go_enter Try.func11, Try.ntmps11
      go_wp2_with (go_at_call 18; refine (sizeMay_any _ _).mono ?_; rintro e w' ⟨rfl, rfl⟩)
      go_ret2
      exact ⟨rfl, rfl⟩
    · obtain ⟨m, rfl⟩ := Int.eq_ofNat_of_zero_le (show 0 ≤ n by omega)
      have hge : wrap64 (2 ^ (8 * s)) ≤ (m : Int) := by
        rw [pow_wrap s (by omega) (by omega)]
        have h3 : 256 ^ s ≤ m := by
          rcases h with h | h | h
          · exact absurd hs h
          · omega
          · simpa using h
        exact Int.ofNat_le.2 h3
      clear h h0
      obtain ⟨hs1, hs2⟩ := hs
      go_enter Try.func11, Try.ntmps11
      go_wp2_with (go_at_call 18; refine (sizeMay_any _ _).mono ?_; rintro e w' ⟨rfl, rfl⟩)
      all_goals first | (go_ret2; exact ⟨rfl, rfl⟩) | skip
  · have hb := mayB_no hs
    clear h
    go_enter Try.func11, Try.ntmps11
    go_wp2_with (go_at_call 18; refine (sizeMay_any _ _).mono ?_; rintro e w' ⟨rfl, rfl⟩)
    go_ret2
    exact ⟨rfl, rfl⟩

theorem take_bad (A : Option Addr) (n c : Nat) (size : Int) (w : World) (h : ¬ (1 ≤ size ∧ size ≤ 4)) :
    Calls Try.prog 15 #[.slice A n c, .int .i64 size] w fun e w' => e = .returned (.tuple #[.int .i64 0, .int .i64 1]) ∧ w = w' := by
  have hb := mayB_no h
  clear h
  go_enter Try.func15, Try.ntmps15
  go_wp2_with (go_at_call 18; refine (sizeMay_any _ _).mono ?_; rintro e w' ⟨rfl, rfl⟩)
  go_ret2
  exact ⟨rfl, rfl⟩
theorem take_short (A : Option Addr) (n c : Nat) (size : Int) (w : World) (h1 : 1 ≤ size) (h2 : size ≤ 4) (hn : (n : Int) < size) :
    Calls Try.prog 15 #[.slice A n c, .int .i64 size] w fun e w' => e = .returned (.tuple #[.int .i64 0, .int .i64 2]) ∧ w = w' := by
  have hb := mayB_yes ⟨h1, h2⟩
  go_enter Try.func15, Try.ntmps15
  go_wp2_with (go_at_call 18; refine (sizeMay_any _ _).mono ?_; rintro e w' ⟨rfl, rfl⟩)
  go_ret2
  exact ⟨rfl, rfl⟩
theorem take_core (A : Option Addr) (n c : Nat) (l : List UInt8) (s : Nat) (w : World) (hl : l.length = n) (hn : n ≤ maxLen) (hA : Has w A (vals l)) (h1 : 1 ≤ (s : Int)) (h2 : (s : Int) ≤ 4) (hs : (s : Int) ≤ n) :
    Calls Try.prog 15 #[.slice A n c, .int .i64 s] w fun e w' => e = .returned (.tuple #[.int .i64 (val (l.take s)), .int .i64 0]) ∧ w = w' := by
  have hb := mayB_yes ⟨h1, h2⟩
  unfold maxLen at hn
  have HL := Lib.hid hl
  clear hl
  obtain ⟨ad, rfl, hc⟩ := hA (by rw [vals_length, HL.out]; omega)
  go_enter Try.func15, Try.ntmps15
  go_wp2_with (go_at_call 18; refine (sizeMay_any _ _).mono ?_; rintro e w' ⟨rfl, rfl⟩)
  clear hb
  go_loop [4, 6, 15] (fun n _ i => ∃ k : Nat, k ≤ s ∧ i = .int .i64 k ∧ n = .int .i64 (val (l.take k))) (fun _ _ i => s - (intOf i).toNat)
  case atStart => exact ⟨0, Nat.zero_le _, rfl, rfl⟩
  case round =>
    obtain ⟨k, hk, rfl, rfl⟩ := hrel
    by_cases hlt : k < s
    · have hkl : k < l.length := by rw [HL.out]; omega
      have hcell : w.cell? (ad.add k) = some (.int .u8 (l[k].toNat : Int)) := hc k _ (by rw [List.getElem?_eq_getElem (by rw [vals_length]; exact hkl), vals_at])
      have hv := val_take_lt l k
      have hv2 : val (l.take k) < 16777216 := Nat.lt_of_lt_of_le hv (Nat.le_trans (Nat.pow_le_pow_right (by omega) (show k ≤ 3 by omega)) (by decide))
      have hby := l[k].toNat_lt
      clear hc hv
      go_wp2
      go_round
      case rel =>
        refine ⟨k + 1, by omega, by go_num, ?_⟩
        have e : ((val (l.take k) : Int) * 256) = ((val (l.take k) * 256 : Nat) : Int) := by omega
        rw [e, i64_or_nat _ _ (by omega) (by omega), or_byte _ _ (by omega), val_take_succ l k hkl]
      case measure => simp [intOf]; omega
    · go_wp2
      go_ret2
      have : k = s := by omega
      subst this
      exact ⟨rfl, rfl⟩
/-- Take of bytes that are enough. -/
theorem take_ok (A : Option Addr) (n c : Nat) (l : List UInt8) (size : Int) (w : World) (hl : l.length = n) (hn : n ≤ maxLen) (hA : Has w A (vals l)) (h1 : 1 ≤ size) (h2 : size ≤ 4) (hs : size ≤ n) :
    Calls Try.prog 15 #[.slice A n c, .int .i64 size] w fun e w' => e = .returned (.tuple #[.int .i64 (val (l.take size.toNat)), .int .i64 0]) ∧ w = w' := by
  obtain ⟨s, rfl⟩ := Int.eq_ofNat_of_zero_le (show 0 ≤ size by omega)
  rw [Int.toNat_natCast]
  exact take_core A n c l s w hl hn hA h1 h2 hs

/-- what Put tells, whatever it is asked -/
def putS (n size : Int) : List UInt8 × Int := if (1 ≤ size ∧ size ≤ 4) ∧ 0 ≤ n ∧ n.toNat < 256 ^ size.toNat then (be size.toNat n.toNat, 0) else ([], 1)
theorem put_any (n size : Int) (w : World) : Calls Try.prog 11 #[.int .i64 n, .int .i64 size] w fun e w' =>
    ∃ v, e = .returned (.tuple #[v, .int .i64 (putS n size).2]) ∧ IsB w' v (putS n size).1 ∧ Below w.heap.size w w' := by
  by_cases h : (1 ≤ size ∧ size ≤ 4) ∧ 0 ≤ n ∧ n.toNat < 256 ^ size.toNat
  · rw [putS, if_pos h]
    refine (put_ok n size w h.1.1 h.1.2 h.2.1 h.2.2).mono ?_
    rintro e w' ⟨rfl, rfl⟩
    exact ⟨_, rfl, IsB.new _ _ _ _ _ (be_length _ _) (by unfold maxLen; omega), (Below.refl _ _).alloc (Nat.le_refl _) _⟩
  · rw [putS, if_neg h]
    refine (put_no n size w ?_).mono ?_
    · by_cases h1 : 1 ≤ size ∧ size ≤ 4
      · right
        by_cases h2 : n < 0
        · exact .inl h2
        · right
          by_cases h3 : 256 ^ size.toNat ≤ n.toNat
          · exact h3
          · exact absurd ⟨h1, by omega, by omega⟩ h
      · exact .inl h1
    · rintro e w' ⟨rfl, rfl⟩
      exact ⟨_, rfl, IsB.nil_ _, Below.refl _ _⟩
/-- what Take tells -/
def takeS (l : List UInt8) (size : Int) : Int × Int := if 1 ≤ size ∧ size ≤ 4 then (if (l.length : Int) < size then (0, 2) else ((val (l.take size.toNat) : Int), 0)) else (0, 1)
theorem take_any (v : Value) (l : List UInt8) (size : Int) (w : World) (hv : IsB w v l) : Calls Try.prog 15 #[v, .int .i64 size] w fun e w' =>
    e = .returned (.tuple #[.int .i64 (takeS l size).1, .int .i64 (takeS l size).2]) ∧ w = w' := by
  obtain ⟨A, n, c, rfl, hnc, hcm, hl, hA⟩ := hv
  by_cases h : 1 ≤ size ∧ size ≤ 4
  · by_cases h2 : (l.length : Int) < size
    · rw [takeS, if_pos h, if_pos h2]
      exact take_short A n c size w h.1 h.2 (by omega)
    · rw [takeS, if_pos h, if_neg h2]
      exact take_ok A n c l size w hl (by omega) hA h.1 h.2 (by omega)
  · rw [takeS, if_neg h]
    exact take_bad A n c size w h

/-! Row -/
def fits (s : Nat) (n : Int) : Prop := 0 ≤ n ∧ n.toNat < 256 ^ s
def rowb (s : Nat) (l : List Int) : List UInt8 := l.flatMap fun n => be s n.toNat
theorem rowb_length (s : Nat) (l : List Int) : (rowb s l).length = l.length * s := by
  induction l with
  | nil => simp [rowb]
  | cons a l ih => simp only [rowb, List.flatMap_cons, List.length_append, be_length, List.length_cons] at ih ⊢; rw [ih, Nat.add_mul]; omega
theorem rowb_take_succ (s : Nat) (l : List Int) (k : Nat) (h : k < l.length) : rowb s (l.take (k + 1)) = rowb s (l.take k) ++ be s l[k].toNat := by
  rw [take_snoc_get l k h, rowb, List.flatMap_append]
  simp [rowb]
theorem row_bad (v : Value) (size : Int) (w : World) (h : ¬ (1 ≤ size ∧ size ≤ 4)) :
    Calls Try.prog 13 #[.int .i64 size, v] w fun e w' => e = .returned (.tuple #[.slice none 0 0, .int .i64 1]) ∧ w = w' := by
  have hb := mayB_no h
  clear h
  go_enter Try.func13, Try.ntmps13
  go_wp2_with (go_at_call 18; refine (sizeMay_any _ _).mono ?_; rintro e w' ⟨rfl, rfl⟩)
  go_ret2
  exact ⟨rfl, rfl⟩
def zeros (n : Nat) : Array Value := madeCells #[.int .u8 0] n
theorem zeros_size (n : Nat) : (zeros n).size = n := size_madeCells _ _
theorem run_make_zeros (s n : Nat) (h1 : 1 ≤ s) (h2 : s ≤ 4) (hn : n ≤ 1048576) (W : World) :
    (Instr.makeSlice 23 (.int .i64 0) (.int .i64 (wrap64 (↑s * ↑n)))).run Try.prog W = .ok (.slice (some ⟨W.heap.size, 0, none⟩) 0 (n * s)) (W.alloc (.cells (zeros (n * s)) 5)) := by
  obtain ⟨i0, hi0, hz0, hz1, hz2⟩ := info_parts byte_info
  have h3 : n * s ≤ n * 4 := Nat.mul_le_mul_left _ h2
  have h4 : ((s : Int) * (n : Int)) = ((n * s : Nat) : Int) := by rw [Int.natCast_mul, Int.mul_comm]
  have h5 : wrap64 ((s : Int) * (n : Int)) = ((n * s : Nat) : Int) := by rw [h4]; exact IntWalk.wrap64_in _ (by omega)
  rw [h5]
  have := run_make (P := Try.prog) W 23 5 i0 (.int .u8 0) Try.underlying23 hi0 hz0 .i64 .i64 0 (n * s : Nat) (by omega) (by omega) (by rw [hz2]; omega) (by omega)
  rw [this, hz1, Int.toNat_natCast, Int.toNat_zero, Nat.mul_one]
  rfl
theorem row_core (A : Option Addr) (n c : Nat) (l : List Int) (s : Nat) (w : World) (hl : l.length = n) (hn : n ≤ 1048576) (hA : Has w A (ints l)) (h1 : 1 ≤ (s : Int)) (h2 : (s : Int) ≤ 4) (hf : ∀ x ∈ l, fits s x) :
    Calls Try.prog 13 #[.int .i64 s, .slice A n c] w fun e w' => ∃ v, e = .returned (.tuple #[v, .int .i64 0]) ∧ w'.ownsRow w.heap.size 5 1 v (n * s) (vals (rowb s l)) ∧ Below w.heap.size w w' := by
  have hb := mayB_yes ⟨h1, h2⟩
  have HL := Lib.hid hl
  clear hl
  have HF := Lib.hid hf
  clear hf
  have hA0 := Lib.hid hA
  clear hA
  have hmk := run_make_zeros s n (by omega) (by omega) hn
  obtain ⟨i0, hi0, hz0, hz1, hz2⟩ := info_parts byte_info
  have HI : Hid (Try.prog.info? 5 = some i0 ∧ i0.zero = some (.int .u8 0) ∧ i0.size = 1 ∧ i0.bytes = 1) := ⟨hi0, hz0, hz1, hz2⟩
  clear hi0 hz0 hz1 hz2
  go_enter Try.func13, Try.ntmps13
  go_wp2_with (go_at_call 18; refine (sizeMay_any _ _).mono ?_; rintro e w' ⟨rfl, rfl⟩)
  clear hmk hb
  obtain ⟨B, hB⟩ : ∃ B, B = w.heap.size := ⟨_, rfl⟩
  have HB := Lib.hid hB
  clear hB
  go_loopw [6, 21] (fun v i wr => ∃ k : Nat, k ≤ n ∧ i = .int .i64 k ∧ wr.ownsRow B 5 1 v (k * s) (vals (rowb s (l.take k))) ∧ Below B w wr) (fun _ i _ => n - (intOf i).toNat)
  case atStart =>
    refine ⟨0, Nat.zero_le _, rfl, ?_, ?_⟩
    · rw [HB.out]
      simpa [rowb, vals] using World.ownsRow_made (e := 5) (size := 1) w (zeros (n * s)) (n * s) (Nat.le_refl _) (by unfold maxLen; have : n * s ≤ n * 4 := Nat.mul_le_mul_left _ (by omega); omega) (by rw [zeros_size]; omega)
    · rw [HB.out]
      exact (Below.refl _ _).alloc (Nat.le_refl _) _
  case round =>
    obtain ⟨k, hk, rfl, hown, hbel⟩ := hrel
    by_cases hlt : k < n
    · have hkl : k < l.length := by rw [HL.out]; exact hlt
      obtain ⟨hx1, hx2⟩ := HF.out l[k] (List.getElem_mem hkl)
      obtain ⟨ad, rfl, hcell⟩ := hA0.out.at_ (k := k) (by rw [ints_length]; exact hkl)
      rw [ints_at l k hkl] at hcell
      obtain ⟨hi0, hz0, hz1, hz2⟩ := HI.out
      have HC := Lib.hid hcell
      clear hcell
      have hcell : wr.cell? (ad.add k) = some (.int .i64 l[k]) := by
        rw [hbel.cell (by rw [HB.out]; exact World.block_lt_of_cell? w _ HC.out)]
        exact HC.out
      have HW := Lib.hid hown
      have HBe := Lib.hid hbel
      clear hown hbel
      have h3 : k * s ≤ n * 4 := Nat.mul_le_mul (by omega) (by omega)
      go_wp2_with (first
        | (go_at_call 11; refine (put_ok _ _ _ h1 h2 hx1 (by simpa using hx2)).mono ?_; rintro e w' ⟨rfl, rfl⟩)
        | (at_builtin; refine wpList_append_has _ rfl (.tmp 34) (.tmp 35) _ rfl B 5 i0 (.int .u8 0) 1 Try.underlying23 hi0 hz0 hz1 hz2 rfl _ (k * s) _ rfl (HW.out.alloc _) _ s _ (vals (be s l[k].toNat)) rfl (by rw [vals_length, be_length]) (Has.new _ _ _ _) (vals_one _) (by unfold maxLen; omega) (by omega) (by have := HBe.out.size; rw [← HB.out] at this; simp only [World.size_alloc]; omega) ?_; intro v' w1 hown1 hgrow1 _; have HO := Lib.hid hown1; have HG := Lib.hid hgrow1; clear hown1 hgrow1))
      go_roundw
      case rel =>
        refine ⟨k + 1, by omega, by go_num, ?_, ?_⟩
        · rw [rowb_take_succ s l k hkl, vals_append, Nat.add_mul, Nat.one_mul]
          exact HO.out
        · refine (HBe.out.alloc (by have := HBe.out.size; rw [← HB.out] at this; exact this) _).grown HG.out (by have := HBe.out.size; rw [← HB.out] at this; simp only [World.size_alloc]; omega) (fun g hg => (HW.out.lt g hg).1)
      case measure => simp [intOf]; omega
    · go_wp2
      go_ret2
      have : k = n := by omega
      subst this
      rw [List.take_of_length_le (by rw [HL.out]; omega)] at hown
      rw [HB.out] at hown hbel
      exact ⟨_, rfl, hown, hbel⟩
/-- Row with one that does not fit: the first of these is told. -/
theorem row_miss (A : Option Addr) (n c : Nat) (l : List Int) (s : Nat) (w : World) (hl : l.length = n) (hn : n ≤ 1048576) (hA : Has w A (ints l)) (h1 : 1 ≤ (s : Int)) (h2 : (s : Int) ≤ 4) (j : Nat) (hj : j < n) (hf : ∀ x ∈ l.take j, fits s x) (hm : ∀ x, l[j]? = some x → x < 0 ∨ 256 ^ s ≤ x.toNat) :
    Calls Try.prog 13 #[.int .i64 s, .slice A n c] w fun e w' => e = .returned (.tuple #[.slice none 0 0, .int .i64 1]) ∧ Below w.heap.size w w' := by
  have hb := mayB_yes ⟨h1, h2⟩
  have HL := Lib.hid hl
  clear hl
  have HF := Lib.hid hf
  have HM := Lib.hid hm
  clear hf hm
  have hA0 := Lib.hid hA
  clear hA
  have hmk := run_make_zeros s n (by omega) (by omega) hn
  obtain ⟨i0, hi0, hz0, hz1, hz2⟩ := info_parts byte_info
  have HI : Hid (Try.prog.info? 5 = some i0 ∧ i0.zero = some (.int .u8 0) ∧ i0.size = 1 ∧ i0.bytes = 1) := ⟨hi0, hz0, hz1, hz2⟩
  clear hi0 hz0 hz1 hz2
  go_enter Try.func13, Try.ntmps13
  go_wp2_with (go_at_call 18; refine (sizeMay_any _ _).mono ?_; rintro e w' ⟨rfl, rfl⟩)
  clear hmk hb
  obtain ⟨B, hB⟩ : ∃ B, B = w.heap.size := ⟨_, rfl⟩
  have HB := Lib.hid hB
  clear hB
  go_loopw [6, 21] (fun v i wr => ∃ k : Nat, k ≤ j ∧ i = .int .i64 k ∧ wr.ownsRow B 5 1 v (k * s) (vals (rowb s (l.take k))) ∧ Below B w wr) (fun _ i _ => n - (intOf i).toNat)
  case atStart =>
    refine ⟨0, Nat.zero_le _, rfl, ?_, ?_⟩
    · rw [HB.out]
      simpa [rowb, vals] using World.ownsRow_made (e := 5) (size := 1) w (zeros (n * s)) (n * s) (Nat.le_refl _) (by unfold maxLen; have : n * s ≤ n * 4 := Nat.mul_le_mul_left _ (by omega); omega) (by rw [zeros_size]; omega)
    · rw [HB.out]
      exact (Below.refl _ _).alloc (Nat.le_refl _) _
  case round =>
    obtain ⟨k, hk, rfl, hown, hbel⟩ := hrel
    by_cases hlt : k < j
    · have hkl : k < l.length := by rw [HL.out]; omega
      obtain ⟨hx1, hx2⟩ := HF.out l[k] (by rw [show l[k] = (l.take j)[k]'(by rw [List.length_take]; omega) from by simp]; exact List.getElem_mem _)
      obtain ⟨ad, rfl, hcell⟩ := hA0.out.at_ (k := k) (by rw [ints_length]; exact hkl)
      rw [ints_at l k hkl] at hcell
      obtain ⟨hi0, hz0, hz1, hz2⟩ := HI.out
      have HC := Lib.hid hcell
      clear hcell
      have hcell : wr.cell? (ad.add k) = some (.int .i64 l[k]) := by
        rw [hbel.cell (by rw [HB.out]; exact World.block_lt_of_cell? w _ HC.out)]
        exact HC.out
      have HW := Lib.hid hown
      have HBe := Lib.hid hbel
      clear hown hbel
      have h3 : k * s ≤ n * 4 := Nat.mul_le_mul (by omega) (by omega)
      go_wp2_with (first
        | (go_at_call 11; refine (put_ok _ _ _ h1 h2 hx1 (by simpa using hx2)).mono ?_; rintro e w' ⟨rfl, rfl⟩)
        | (at_builtin; refine wpList_append_has _ rfl (.tmp 34) (.tmp 35) _ rfl B 5 i0 (.int .u8 0) 1 Try.underlying23 hi0 hz0 hz1 hz2 rfl _ (k * s) _ rfl (HW.out.alloc _) _ s _ (vals (be s l[k].toNat)) rfl (by rw [vals_length, be_length]) (Has.new _ _ _ _) (vals_one _) (by unfold maxLen; omega) (by omega) (by have := HBe.out.size; rw [← HB.out] at this; simp only [World.size_alloc]; omega) ?_; intro v' w1 hown1 hgrow1 _; have HO := Lib.hid hown1; have HG := Lib.hid hgrow1; clear hown1 hgrow1))
      go_roundw
      case rel =>
        refine ⟨k + 1, by omega, by go_num, ?_, ?_⟩
        · rw [rowb_take_succ s l k hkl, vals_append, Nat.add_mul, Nat.one_mul]
          exact HO.out
        · refine (HBe.out.alloc (by have := HBe.out.size; rw [← HB.out] at this; exact this) _).grown HG.out (by have := HBe.out.size; rw [← HB.out] at this; simp only [World.size_alloc]; omega) (fun g hg => (HW.out.lt g hg).1)
      case measure => simp [intOf]; omega
    · have hkj : k = j := by omega
      subst hkj
      have hkl : k < l.length := by rw [HL.out]; omega
      have hx := HM.out l[k] (List.getElem?_eq_getElem hkl)
      obtain ⟨ad, rfl, hcell⟩ := hA0.out.at_ (k := k) (by rw [ints_length]; exact hkl)
      rw [ints_at l k hkl] at hcell
      have HC := Lib.hid hcell
      clear hcell
      have hcell : wr.cell? (ad.add k) = some (.int .i64 l[k]) := by
        rw [hbel.cell (by rw [HB.out]; exact World.block_lt_of_cell? w _ HC.out)]
        exact HC.out
      have HBe := Lib.hid hbel
      clear hown hbel
      go_wp2_with (go_at_call 11; refine (put_no _ _ _ (.inr (by simpa using hx))).mono ?_; rintro e w' ⟨rfl, rfl⟩)
      go_ret2
      exact ⟨rfl, by have := HBe.out; rw [HB.out] at this; exact this⟩

theorem row_ok (A : Option Addr) (n c : Nat) (l : List Int) (size : Int) (w : World) (hl : l.length = n) (hn : n ≤ 1048576) (hA : Has w A (ints l)) (h1 : 1 ≤ size) (h2 : size ≤ 4) (hf : ∀ x ∈ l, fits size.toNat x) :
    Calls Try.prog 13 #[.int .i64 size, .slice A n c] w fun e w' => ∃ v, e = .returned (.tuple #[v, .int .i64 0]) ∧ w'.ownsRow w.heap.size 5 1 v (n * size.toNat) (vals (rowb size.toNat l)) ∧ Below w.heap.size w w' := by
  obtain ⟨s, rfl⟩ := Int.eq_ofNat_of_zero_le (show 0 ≤ size by omega)
  rw [Int.toNat_natCast] at hf ⊢
  exact row_core A n c l s w hl hn hA h1 h2 hf
theorem row_no (A : Option Addr) (n c : Nat) (l : List Int) (size : Int) (w : World) (hl : l.length = n) (hn : n ≤ 1048576) (hA : Has w A (ints l)) (h1 : 1 ≤ size) (h2 : size ≤ 4)
    (j : Nat) (hj : j < n) (hf : ∀ x ∈ l.take j, fits size.toNat x) (hm : ∀ x, l[j]? = some x → x < 0 ∨ 256 ^ size.toNat ≤ x.toNat) :
    Calls Try.prog 13 #[.int .i64 size, .slice A n c] w fun e w' => e = .returned (.tuple #[.slice none 0 0, .int .i64 1]) ∧ Below w.heap.size w w' := by
  obtain ⟨s, rfl⟩ := Int.eq_ofNat_of_zero_le (show 0 ≤ size by omega)
  rw [Int.toNat_natCast] at hf hm
  exact row_miss A n c l s w hl hn hA h1 h2 j hj hf hm
/-- what Row tells: all that fit, or nothing -/
def fitsB (s : Nat) (n : Int) : Bool := decide (0 ≤ n ∧ n.toNat < 256 ^ s)
theorem fitsB_iff {s : Nat} {n : Int} : fitsB s n = true ↔ fits s n := by simp [fitsB, fits]
def rowS (size : Int) (l : List Int) : List UInt8 × Int := if (1 ≤ size ∧ size ≤ 4) ∧ l.all (fitsB size.toNat) = true then (rowb size.toNat l, 0) else ([], 1)
/-- the first that does not fit -/
theorem first_miss (s : Nat) : ∀ (l : List Int), ¬ (l.all (fitsB s) = true) → ∃ j, j < l.length ∧ (∀ x ∈ l.take j, fits s x) ∧ ∀ x, l[j]? = some x → x < 0 ∨ 256 ^ s ≤ x.toNat
  | [], h => absurd rfl h
  | a :: l, h => by
    by_cases ha : fits s a
    · have hl : ¬ (l.all (fitsB s) = true) := fun h2 => h (by rw [List.all_cons, fitsB_iff.2 ha, h2]; rfl)
      obtain ⟨j, hj, h1, h2⟩ := first_miss s l hl
      refine ⟨j + 1, by simpa using hj, fun x hx => ?_, fun x hx => h2 x (by simpa using hx)⟩
      rw [List.take_succ_cons] at hx
      rcases List.mem_cons.1 hx with rfl | hx
      · exact ha
      · exact h1 x hx
    · refine ⟨0, by simp, by simp, fun x hx => ?_⟩
      simp only [List.getElem?_cons_zero, Option.some.injEq] at hx
      subst hx
      unfold fits at ha
      omega
theorem row_any (v : Value) (l : List Int) (size : Int) (w : World) (hv : IsI w v l) (hn : l.length ≤ 1048576) : Calls Try.prog 13 #[.int .i64 size, v] w fun e w' =>
    ∃ r, e = .returned (.tuple #[r, .int .i64 (rowS size l).2]) ∧ IsB w' r (rowS size l).1 ∧ Below w.heap.size w w' := by
  by_cases h : 1 ≤ size ∧ size ≤ 4
  · obtain ⟨A, n, c, rfl, hnc, hcm, hl, hA⟩ := hv
    by_cases h2 : l.all (fitsB size.toNat) = true
    · rw [rowS, if_pos ⟨h, h2⟩]
      refine (row_ok A n c l size w hl (by omega) hA h.1 h.2 (fun x hx => fitsB_iff.1 (List.all_eq_true.1 h2 x hx))).mono ?_
      rintro e w' ⟨r, rfl, hown, hb⟩
      exact ⟨r, rfl, IsB.of_own hown, hb⟩
    · rw [rowS, if_neg (fun h3 => h2 h3.2)]
      obtain ⟨j, hj, h3, h4⟩ := first_miss _ l h2
      refine (row_no A n c l size w hl (by omega) hA h.1 h.2 j (by omega) h3 h4).mono ?_
      rintro e w' ⟨rfl, hb⟩
      exact ⟨_, rfl, IsB.nil_ _, hb⟩
  · rw [rowS, if_neg (fun h3 => h h3.1)]
    refine (row_bad v size w h).mono ?_
    rintro e w' ⟨rfl, rfl⟩
    exact ⟨_, rfl, IsB.nil_ _, Below.refl _ _⟩
end Go.Proofs.Ytnhhpdjcipfdjaa
