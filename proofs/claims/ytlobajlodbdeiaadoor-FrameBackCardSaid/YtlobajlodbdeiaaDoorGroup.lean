/- Contracts of package group. -/
import Derived.Test.YtlobajlodbdeiaaDoorByte
import Derived.Test.YtlobajlodbdeiaaDoorGroupMath
import Derived.WalkMore
import Derived.Scope
namespace Go.Proofs.YtlobajlodbdeiaaDoor
open Go.RowKit
set_option linter.unusedVariables false
set_option linter.unusedSimpArgs false

theorem gsize_out (n : Int) (w : World) (h : ¬ (0 ≤ n ∧ n ≤ 268435455)) :
    Calls Tryd.prog 37 #[.int .i64 n] w fun e w' => e = .returned (.int .i64 0) ∧ w = w' := by
  by_cases h1 : n < 0
  · clear h
    go_enter Tryd.func37, Tryd.ntmps37
    go_wp2
    go_ret
    exact ⟨rfl, rfl⟩
  · have h2 : 268435455 < n := by omega
    clear h
    go_enter Tryd.func37, Tryd.ntmps37
    go_wp2
    go_ret
    exact ⟨rfl, rfl⟩
theorem gsize_core (N s : Nat) (w : World) (hN : (N : Int) ≤ 268435455) (hs : Hid (gsize N = s)) :
    Calls Tryd.prog 37 #[.int .i64 N] w fun e w' => e = .returned (.int .i64 s) ∧ w = w' := by
  have h0 : 0 ≤ (N : Int) := by omega
  go_enter Tryd.func37, Tryd.ntmps37
  go_wp2
  go_loop [0, 3] (fun x i => ∃ k y : Nat, k ≤ 3 ∧ i = .int .i64 ((k + 1 : Nat) : Int) ∧ x = .int .i64 y ∧ y ≤ 2097151 ∧ Hid (y = N / 128 ^ (k + 1)) ∧ Hid (k = 0 ∨ N / 128 ^ k ≠ 0)) (fun _ i => 4 - (intOf i).toNat)
  case atStart => exact ⟨0, N / 128, by omega, rfl, by simp, by omega, by simp [Hid], .inl rfl⟩
  case round =>
    obtain ⟨k, y, hk, rfl, rfl, hy, HY, HK⟩ := hrel
    by_cases hlt : 0 < y
    · have hk2 := size_goes N k (by omega) hk (by rw [← HY.out]; omega)
      go_wp2
      go_round
      case rel => exact ⟨k + 1, y / 128, hk2, by go_num, by simp, by omega, by show _ = _; rw [HY.out, Nat.div_div_eq_div_mul, Nat.pow_succ 128 (k + 1)], .inr (by rw [← HY.out]; omega)⟩
      case measure => simp [intOf]; omega
    · have he := size_end N k (by omega) hk (by rw [← HY.out]; omega) HK.out
      rw [hs.out] at he
      subst he
      go_wp2
      go_ret
      exact ⟨rfl, rfl⟩
theorem gsize_any (n : Int) (w : World) : Calls Tryd.prog 37 #[.int .i64 n] w fun e w' => e = .returned (.int .i64 (sizeS n)) ∧ w = w' := by
  by_cases h : 0 ≤ n ∧ n ≤ 268435455
  · obtain ⟨N, rfl⟩ := Int.eq_ofNat_of_zero_le h.1
    rw [sizeS, if_pos h, Int.toNat_natCast]
    exact gsize_core N _ w h.2 rfl
  · rw [sizeS, if_neg h]
    exact gsize_out n w h

/-- what Put holds after k rounds -/
def garr (s k n : Nat) : Array Value := (vals (List.replicate (s - k) 0 ++ hi k n)).toArray
theorem garr_cell (s k n : Nat) (h : k < s) : (garr s k n)[s - 1 - k]? = some (.int .u8 0) := by
  simp only [garr, vals, List.getElem?_toArray, List.getElem?_map]
  rw [List.getElem?_append_left (by simp; omega), List.getElem?_replicate, if_pos (by omega)]
  rfl
theorem garr_set (s k n : Nat) (h : k < s) : (garr s k n).setIfInBounds (s - 1 - k) (.int .u8 ((128 + n / 128 ^ k % 128 : Nat) : Int)) = garr s (k + 1) n := by
  have e : ((128 + n / 128 ^ k % 128 : Nat) : Int) = ((UInt8.ofNat (128 + n / 128 ^ k % 128)).toNat : Int) := by
    rw [toNat_ofNat_lt (by omega)]
  rw [e, garr, garr, hi_head]
  obtain ⟨d, rfl⟩ : ∃ d, s = k + 1 + d := ⟨s - (k + 1), by omega⟩
  have h1 : k + 1 + d - k = d + 1 := by omega
  have h2 : k + 1 + d - (k + 1) = d := by omega
  have h3 : k + 1 + d - 1 - k = d := by omega
  rw [h1, h2, h3, List.replicate_succ', List.append_assoc, vals_append, vals_append]
  simp only [List.setIfInBounds_toArray]
  rw [List.set_append_right _ _ (by simp [vals])]
  simp [vals]
/-- the last byte, ahead of and behind the last store -/
theorem garr_last (n s : Nat) (hs : gsize n = s) : (garr s s n)[s - 1]? = some (.int .u8 ((128 + n % 128 : Nat) : Int)) ∧ (garr s s n).setIfInBounds (s - 1) (.int .u8 ((n % 128 : Nat) : Int)) = (vals (grp n)).toArray := by
  subst hs
  obtain ⟨l, hl, h1, h2⟩ := grp_snoc n
  have e : garr (gsize n) (gsize n) n = (vals l ++ [Value.int .u8 ((128 + n % 128 : Nat) : Int)]).toArray := by
    rw [garr, h1, Nat.sub_self, List.replicate_zero, List.nil_append, vals_append]
    simp only [vals, List.map_cons, List.map_nil, toNat_ofNat_lt (show 128 + n % 128 < 256 by omega)]
  have h3 : (vals l).length = gsize n - 1 := by rw [vals_length, hl]
  rw [e, ← h3]
  refine ⟨?_, ?_⟩
  · rw [List.getElem?_toArray, List.getElem?_append_right (Nat.le_refl _), Nat.sub_self]
    rfl
  · rw [h2, vals_append]
    simp only [List.setIfInBounds_toArray]
    rw [List.set_append_right _ _ (Nat.le_refl _), Nat.sub_self]
    simp only [vals, List.map_cons, List.map_nil, toNat_ofNat_lt (show n % 128 < 256 by omega), List.set_cons_zero]
theorem u8_or (x : Nat) : bits .or .u8 ((x % 256 : Nat) : Int) 128 = ((128 + x % 128 : Nat) : Int) := by
  have h : ∀ y : Fin 256, bits .or .u8 ((y.val : Nat) : Int) 128 = ((128 + y.val % 128 : Nat) : Int) := by decide +kernel
  have := h ⟨x % 256, Nat.mod_lt _ (by omega)⟩
  rw [this]
  congr 2
  show x % 256 % 128 = x % 128
  omega
theorem group_byte (N k : Nat) : bits .or .u8 ((N : Int) / 2 ^ (7 * k) % 256) 128 = ((128 + N / 128 ^ k % 128 : Nat) : Int) := by
  have h2 : (2 : Int) ^ (7 * k) = ((128 ^ k : Nat) : Int) := by
    rw [show (128 : Nat) ^ k = 2 ^ (7 * k) from by rw [Nat.pow_mul], Int.natCast_pow]
    rfl
  rw [h2]
  exact u8_or (N / 128 ^ k)
theorem u8_andNot (x : Nat) : bits .andNot .u8 (128 + (x : Int) % 128) 128 = ((x % 128 : Nat) : Int) := by
  have h : ∀ y : Fin 128, bits .andNot .u8 ((128 + y.val : Nat) : Int) 128 = ((y.val : Nat) : Int) := by decide +kernel
  have := h ⟨x % 128, Nat.mod_lt _ (by omega)⟩
  simpa using this
theorem gput_core (N s : Nat) (w : World) (hN : (N : Int) ≤ 268435455) (hs : Hid (gsize N = s)) :
    Calls Tryd.prog 28 #[.int .i64 N] w fun e w' => e = .returned (.tuple #[.slice (some ⟨w.heap.size, 0, none⟩) s s, .int .i64 0]) ∧ w.alloc (.cells (vals (grp N)).toArray 5) = w' := by
  have hnn : 0 ≤ (N : Int) := by omega
  have h1 : 1 ≤ (s : Int) := by have := gsize_pos N; rw [hs.out] at this; omega
  have h2 : (s : Int) ≤ 4 := by have := gsize_pos N; rw [hs.out] at this; omega
  obtain ⟨i0, hi0, hz0, hz1, hz2⟩ := info_parts byte_info
  have hmk : ∀ W, (Instr.makeSlice 22 (.int .i64 (s : Int)) (.int .i64 (s : Int))).run Tryd.prog W = .ok (.slice (some ⟨W.heap.size, 0, none⟩) s s) (W.alloc (.cells (garr s 0 N) 5)) := fun W => by
    have := run_make (P := Tryd.prog) W 22 5 i0 (.int .u8 0) Tryd.underlying22 hi0 hz0 .i64 .i64 s s (by omega) (by omega) (by rw [hz2]; omega) (by omega)
    rw [this, hz1]
    have e : madeCells (Value.cells (.int .u8 0)) ((s : Int).toNat * 1) = garr s 0 N := by
      apply Array.toList_inj.1
      rw [show Value.cells (.int .u8 0) = #[.int .u8 0] from rfl, toList_madeCells_one]
      simp [garr, hi, vals]
    rw [e, Int.toNat_natCast]
  clear hi0 hz0 hz1 hz2
  go_enter Tryd.func28, Tryd.ntmps28
  go_wp2_with (go_at_call 37; refine (gsize_core _ s _ hN hs).mono ?_; rintro e w' ⟨rfl, rfl⟩)
  clear hmk
  go_loopw [14] (fun i wr => ∃ k : Nat, k ≤ s ∧ i = .int .i64 k ∧ wr = w.alloc (.cells (garr s k N) 5)) (fun i _ => s - (intOf i).toNat)
  case atStart => exact ⟨0, Nat.zero_le _, rfl, rfl⟩
  case round =>
    obtain ⟨k, hk, rfl, rfl⟩ := hrel
    by_cases hlt : k < s
    · have hcell : (w.alloc (.cells (garr s k N) 5)).cell? ⟨w.heap.size, s - 1 - k, none⟩ = some (.int .u8 0) := by
        rw [World.cell?_alloc_mark]
        exact garr_cell s k N hlt
      go_wp2
      go_roundw
      case rel =>
        refine ⟨k + 1, by omega, by go_num, ?_⟩
        rw [group_byte, garr_set s k N hlt]
      case measure => simp [intOf]; omega
    · have hks : k = s := by omega
      subst hks
      obtain ⟨hc1, hc2⟩ := garr_last N k hs.out
      have hcell : (w.alloc (.cells (garr k k N) 5)).cell? ⟨w.heap.size, k - 1, none⟩ = some (.int .u8 ((128 + N % 128 : Nat) : Int)) := by
        rw [World.cell?_alloc_mark]
        exact hc1
      have HC2 := Lib.hid hc2
      clear hc1 hc2 hs
      go_wp2
      go_ret2
      exact ⟨rfl, by rw [u8_andNot, HC2.out]⟩
theorem gput_ok (n : Int) (w : World) (h0 : 0 ≤ n) (h : n ≤ 268435455) :
    Calls Tryd.prog 28 #[.int .i64 n] w fun e w' => e = .returned (.tuple #[.slice (some ⟨w.heap.size, 0, none⟩) (gsize n.toNat) (gsize n.toNat), .int .i64 0]) ∧ w.alloc (.cells (vals (grp n.toNat)).toArray 5) = w' := by
  obtain ⟨N, rfl⟩ := Int.eq_ofNat_of_zero_le h0
  rw [Int.toNat_natCast]
  exact gput_core N _ w h rfl
theorem gput_no (n : Int) (w : World) (h : ¬ (0 ≤ n ∧ n ≤ 268435455)) :
    Calls Tryd.prog 28 #[.int .i64 n] w fun e w' => e = .returned (.tuple #[.slice none 0 0, .int .i64 1]) ∧ w = w' := by
  go_enter Tryd.func28, Tryd.ntmps28
  go_wp2_with (go_at_call 37; refine (gsize_out _ _ h).mono ?_; rintro e w' ⟨rfl, rfl⟩)
  go_ret2
  exact ⟨rfl, rfl⟩
theorem gput_any (n : Int) (w : World) : Calls Tryd.prog 28 #[.int .i64 n] w fun e w' =>
    ∃ v, e = .returned (.tuple #[v, .int .i64 (putG n).2]) ∧ IsB w' v (putG n).1 ∧ Below w.heap.size w w' := by
  by_cases h : 0 ≤ n ∧ n ≤ 268435455
  · rw [putG, if_pos h]
    refine (gput_ok n w h.1 h.2).mono ?_
    rintro e w' ⟨rfl, rfl⟩
    exact ⟨_, rfl, IsB.new _ _ _ _ _ (grp_length _) (by have := gsize_pos n.toNat; unfold maxLen; omega), (Below.refl _ _).alloc (Nat.le_refl _) _⟩
  · rw [putG, if_neg h]
    refine (gput_no n w h).mono ?_
    rintro e w' ⟨rfl, rfl⟩
    exact ⟨_, rfl, IsB.nil_ _, Below.refl _ _⟩

/-- the steps of Take, in the program's own words -/
theorem shl_or (y c : Nat) (hy : y ≤ 2097151) (hc : c < 128) : bits .or .i64 ((y : Int) * 128) (c : Int) = ((y * 128 + c : Nat) : Int) := by
  have h : ((y : Int) * 128) = ((y * 128 : Nat) : Int) := by omega
  rw [h, i64_or_nat _ _ (by omega) (by omega), or_seven _ _ hc]
set_option maxRecDepth 100000 in
set_option maxHeartbeats 1000000 in
theorem gtake_core (A : Option Addr) (n c : Nat) (l : List UInt8) (w : World) (hl : Hid (l.length = n)) (hnc : n ≤ c) (hcm : c ≤ maxLen) (hA : Hid (Has w A (vals l))) :
    Calls Tryd.prog 30 #[.slice A n c] w fun e w' => e = .returned (.tuple #[.int .i64 (takeG l).1, .int .i64 (takeG l).2.1, .int .i64 (takeG l).2.2]) ∧ w = w' := by
  unfold maxLen at hcm
  obtain ⟨R, hR⟩ : ∃ R, takeG l = R := ⟨_, rfl⟩
  rw [hR]
  have HR := Lib.hid hR
  clear hR
  go_enter Tryd.func30, Tryd.ntmps30
  go_wp2
  go_step3
  go_wp2
  go_step3
  go_wp2
  go_loop [2, 3, 4, 9] (fun x u e i => ∃ k y : Nat, k ≤ 3 ∧ k ≤ n ∧ i = .int .i64 k ∧ x = .int .i64 y ∧ u = .int .i64 0 ∧ e = .int .i64 2 ∧ y ≤ 2097151 ∧ Hid (y < 128 ^ k) ∧ Hid (R = takeR k y (l.drop k))) (fun _ _ _ i => 4 - (intOf i).toNat)
  case atStart => exact ⟨0, 0, by omega, by omega, rfl, rfl, rfl, rfl, by omega, by simp [Hid], by show _ = _; rw [← HR.out]; rfl⟩
  case round =>
    obtain ⟨k, y, hk, hkn, rfl, rfl, rfl, rfl, hy, HY, HT⟩ := hrel
    by_cases hlt : k < n
    · have hkl : k < l.length := by rw [hl.out]; exact hlt
      obtain ⟨ad, rfl, hcell⟩ := hA.out.at_ (k := k) (by rw [vals_length]; exact hkl)
      rw [vals_at l k hkl] at hcell
      obtain ⟨b, hb⟩ : ∃ b, l[k] = b := ⟨_, rfl⟩
      rw [hb] at hcell
      have HD : Hid (R = takeR k y (b :: l.drop (k + 1))) := by
        show _ = _
        rw [HT.out, List.drop_eq_getElem_cons hkl, hb]
      clear hb HT
      have hb2 : b.toNat ≤ 255 := by have := b.toNat_lt; omega
      by_cases hb : b.toNat < 128
      · have HE : Hid (R = (((y * 128 + b.toNat : Nat) : Int), ((k + 1 : Nat) : Int), 0)) := by
          show _ = _
          rw [HD.out, takeR_last _ _ _ _ hb]
        have hor := shl_or y b.toNat hy hb
        clear HD
        go_wp2
        go_ret3
        exact ⟨by rw [HE.out]; rfl, rfl⟩
      · have hb3 : ¬ ((b.toNat : Int) < 128) := by omega
        by_cases hf : (k = 0 ∧ b.toNat = 128) ∨ k = 3
        · have HE : Hid (R = (0, 0, 3)) := by
            show _ = _
            rw [HD.out, takeR_form _ _ _ _ (by omega) hf]
          clear HD
          by_cases hk3 : k = 3
          · have t1 : ((k : Int) == 3) = true := beq_iff_eq.2 (by omega)
            have t2 : ((k : Int) == 0) = false := by rw [beq_eq_false_iff_ne]; omega
            clear hf hk3
            go_wp2
            go_ret3
            exact ⟨by rw [HE.out]; rfl, rfl⟩
          · have t1 : ((k : Int) == 0) = true := beq_iff_eq.2 (by omega)
            have t2 : ((b.toNat : Int) == 128) = true := beq_iff_eq.2 (by omega)
            clear hf hk3
            go_wp2
            go_ret3
            exact ⟨by rw [HE.out]; rfl, rfl⟩
        · have hy2 : y * 128 + (b.toNat - 128) < 128 ^ (k + 1) := by
            have := HY.out
            rw [Nat.pow_succ]
            omega
          have hk2 : k + 1 ≤ 3 := by omega
          have HE : Hid (R = takeR (k + 1) (y * 128 + (b.toNat - 128)) (l.drop (k + 1))) := by
            show _ = _
            rw [HD.out, takeR_more _ _ _ _ (by omega) (by omega) (by omega)]
          clear HD
          have t3 : ((k : Int) == 3) = false := by rw [beq_eq_false_iff_ne]; omega
          have hy3 : y * 128 + (b.toNat - 128) ≤ 2097151 := by
            have h5 : 128 ^ (k + 1) ≤ 128 ^ 3 := Nat.pow_le_pow_right (by omega) hk2
            have h6 : 128 ^ 3 = 2097152 := rfl
            omega
          obtain ⟨d, hd⟩ : ∃ d, b.toNat = d + 128 := ⟨b.toNat - 128, by omega⟩
          rw [hd] at hcell HE hy3 hy2 hb2
          rw [Nat.add_sub_cancel] at HE hy3 hy2
          have hor := shl_or y d hy (by omega)
          have HY2 := Lib.hid hy2
          have hsub : ((d + 128 : Nat) : Int) - 128 = (d : Int) := by omega
          have hb4 : ¬ (((d + 128 : Nat) : Int) < 128) := by omega
          rcases (by omega : k = 0 ∧ d ≠ 0 ∨ 0 < k) with ⟨h7, h8⟩ | h7
          · have t1 : ((k : Int) == 0) = true := beq_iff_eq.2 (by omega)
            have t2 : (((d + 128 : Nat) : Int) == 128) = false := by rw [beq_eq_false_iff_ne]; omega
            clear hf hb hb3 hy2 hd h7
            go_wp2
            go_round
            case rel => exact ⟨k + 1, y * 128 + d, hk2, by omega, by go_num, by go_num, rfl, rfl, hy3, HY2, HE⟩
            case measure => simp [intOf]; omega
          · have t1 : ((k : Int) == 0) = false := by rw [beq_eq_false_iff_ne]; omega
            clear hf hb hb3 hy2 hd
            go_wp2
            go_round
            case rel => exact ⟨k + 1, y * 128 + d, hk2, by omega, by go_num, by go_num, rfl, rfl, hy3, HY2, HE⟩
            case measure => simp [intOf]; omega
    · have HE : Hid (R = (0, 0, 2)) := by
        show _ = _
        rw [HT.out, List.drop_eq_nil_of_le (by rw [hl.out]; omega)]
        rfl
      go_wp2
      go_ret3
      exact ⟨by rw [HE.out]; rfl, rfl⟩
theorem gtake_any (v : Value) (l : List UInt8) (w : World) (hv : IsB w v l) : Calls Tryd.prog 30 #[v] w fun e w' => e = .returned (.tuple #[.int .i64 (takeG l).1, .int .i64 (takeG l).2.1, .int .i64 (takeG l).2.2]) ∧ w = w' := by
  obtain ⟨A, n, c, rfl, hnc, hcm, hl, hA⟩ := hv
  exact gtake_core A n c l w hl hnc hcm hA
end Go.Proofs.YtlobajlodbdeiaaDoor
