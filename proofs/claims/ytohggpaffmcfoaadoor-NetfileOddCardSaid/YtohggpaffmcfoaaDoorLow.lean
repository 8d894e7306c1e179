/- Contracts of package group. | Contracts of package crc: Step, More, Sum. | Contracts of package num. | The package's table: what the row lists of it gives the walks; a world that holds it. | Contracts of package theseusref01 (the document's answers for layer 1). | Contracts of package theseusref02 (the document's answers for layer 2). | Contracts of package theseusref03 (the document's answers for layer 3). -/
import Derived.Test.YtohggpaffmcfoaaDoorBase
import Derived.Test.YtohggpaffmcfoaaDoorMath
import Derived.Test.YtohggpaffmcfoaaDoorRows
import Derived.WalkMore
import Derived.Scope
import Derived.Laws.BitsAllLaws
import Derived.ProofKit
import Derived.Lib.LaidTab
import Derived.LaidMore
import Derived.OpenShut
section
namespace Go.Proofs.YtohggpaffmcfoaaDoor
open Go.RowKit
set_option linter.unusedVariables false
set_option maxRecDepth 100000
set_option linter.unusedSimpArgs false

theorem gsize_out (n : Int) (w : World) (h : ¬ (0 ≤ n ∧ n ≤ 268435455)) :
    Calls Tryd.prog 41 #[.int .i64 n] w fun e w' => e = .returned (.int .i64 0) ∧ w = w' := by
  by_cases h1 : n < 0
  · clear h
    go_enter Tryd.func41, Tryd.ntmps41
    go_wp2
    go_ret
    exact ⟨rfl, rfl⟩
  · have h2 : 268435455 < n := by omega
    clear h
    go_enter Tryd.func41, Tryd.ntmps41
    go_wp2
    go_ret
    exact ⟨rfl, rfl⟩
theorem gsize_core (N s : Nat) (w : World) (hN : (N : Int) ≤ 268435455) (hs : Hid (gsize N = s)) :
    Calls Tryd.prog 41 #[.int .i64 N] w fun e w' => e = .returned (.int .i64 s) ∧ w = w' := by
  have h0 : 0 ≤ (N : Int) := by omega
  go_enter Tryd.func41, Tryd.ntmps41
  go_wp2
  go_loop [0, 3] (fun x i => ∃ k y : Nat, k ≤ 3 ∧ i = .int .i64 ((k + 1 : Nat) : Int) ∧ x = .int .i64 y ∧ y ≤ 2097151 ∧ Hid (y = N / 128 ^ (k + 1)) ∧ Hid (k = 0 ∨ N / 128 ^ k ≠ 0)) (fun _ i => 4 - (intOf i).toNat)
  case atStart => exact ⟨0, N / 128, by omega, rfl, by simp, by omega, by simp [Hid], .inl rfl⟩
  case round =>
    obtain ⟨k, y, hk, rfl, rfl, hy, HY, HK⟩ := hrel
    by_cases hlt : 0 < y
    · have hk2 := size_goes N k (by omega) hk (by rw [← HY.out]; omega)
      go_wp2
      go_round
      case rel => exact ⟨k + 1, y / 128, hk2, by go_num, by simp, by omega, by show _ = _; rw [HY.out, Nat.div_div_eq_div_mul, Nat.pow_succ 128 (k + 1)], .inr (by rw [← HY.out]; omega)⟩
      case measure => simp [intOf]; omega
    · have he := size_end N k (by omega) hk (by rw [← HY.out]; omega) HK.out
      rw [hs.out] at he
      subst he
      go_wp2
      go_ret
      exact ⟨rfl, rfl⟩
theorem gsize_any (n : Int) (w : World) : Calls Tryd.prog 41 #[.int .i64 n] w fun e w' => e = .returned (.int .i64 (sizeS n)) ∧ w = w' := by
  by_cases h : 0 ≤ n ∧ n ≤ 268435455
  · obtain ⟨N, rfl⟩ := Int.eq_ofNat_of_zero_le h.1
    rw [sizeS, if_pos h, Int.toNat_natCast]
    exact gsize_core N _ w h.2 rfl
  · rw [sizeS, if_neg h]
    exact gsize_out n w h

/-- what Put holds after k rounds -/
def garr (s k n : Nat) : Array Value := (vals (List.replicate (s - k) 0 ++ hi k n)).toArray
theorem garr_cell (s k n : Nat) (h : k < s) : (garr s k n)[s - 1 - k]? = some (.int .u8 0) := by
  simp only [garr, vals, List.getElem?_toArray, List.getElem?_map]
  rw [List.getElem?_append_left (by simp; omega), List.getElem?_replicate, if_pos (by omega)]
  rfl
theorem garr_set (s k n : Nat) (h : k < s) : (garr s k n).setIfInBounds (s - 1 - k) (.int .u8 ((128 + n / 128 ^ k % 128 : Nat) : Int)) = garr s (k + 1) n := by
  have e : ((128 + n / 128 ^ k % 128 : Nat) : Int) = ((UInt8.ofNat (128 + n / 128 ^ k % 128)).toNat : Int) := by
    rw [toNat_ofNat_lt (by omega)]
  rw [e, garr, garr, hi_head]
  obtain ⟨d, rfl⟩ : ∃ d, s = k + 1 + d := ⟨s - (k + 1), by omega⟩
  have h1 : k + 1 + d - k = d + 1 := by omega
  have h2 : k + 1 + d - (k + 1) = d := by omega
  have h3 : k + 1 + d - 1 - k = d := by omega
  rw [h1, h2, h3, List.replicate_succ', List.append_assoc, vals_append, vals_append]
  simp only [List.setIfInBounds_toArray]
  rw [List.set_append_right _ _ (by simp [vals])]
  simp [vals]
/-- the last byte, ahead of and behind the last store -/
theorem garr_last (n s : Nat) (hs : gsize n = s) : (garr s s n)[s - 1]? = some (.int .u8 ((128 + n % 128 : Nat) : Int)) ∧ (garr s s n).setIfInBounds (s - 1) (.int .u8 ((n % 128 : Nat) : Int)) = (vals (grp n)).toArray := by
  subst hs
  obtain ⟨l, hl, h1, h2⟩ := grp_snoc n
  have e : garr (gsize n) (gsize n) n = (vals l ++ [Value.int .u8 ((128 + n % 128 : Nat) : Int)]).toArray := by
    rw [garr, h1, Nat.sub_self, List.replicate_zero, List.nil_append, vals_append]
    simp only [vals, List.map_cons, List.map_nil, toNat_ofNat_lt (show 128 + n % 128 < 256 by omega)]
  have h3 : (vals l).length = gsize n - 1 := by rw [vals_length, hl]
  rw [e, ← h3]
  refine ⟨?_, ?_⟩
  · rw [List.getElem?_toArray, List.getElem?_append_right (Nat.le_refl _), Nat.sub_self]
    rfl
  · rw [h2, vals_append]
    simp only [List.setIfInBounds_toArray]
    rw [List.set_append_right _ _ (Nat.le_refl _), Nat.sub_self]
    simp only [vals, List.map_cons, List.map_nil, toNat_ofNat_lt (show n % 128 < 256 by omega), List.set_cons_zero]
theorem u8_or (x : Nat) : bits .or .u8 ((x % 256 : Nat) : Int) 128 = ((128 + x % 128 : Nat) : Int) := by
  have h : ∀ y : Fin 256, bits .or .u8 ((y.val : Nat) : Int) 128 = ((128 + y.val % 128 : Nat) : Int) := by decide +kernel
  have := h ⟨x % 256, Nat.mod_lt _ (by omega)⟩
  rw [this]
  congr 2
  show x % 256 % 128 = x % 128
  omega
theorem group_byte (N k : Nat) : bits .or .u8 ((N : Int) / 2 ^ (7 * k) % 256) 128 = ((128 + N / 128 ^ k % 128 : Nat) : Int) := by
  have h2 : (2 : Int) ^ (7 * k) = ((128 ^ k : Nat) : Int) := by
    rw [show (128 : Nat) ^ k = 2 ^ (7 * k) from by rw [Nat.pow_mul], Int.natCast_pow]
    rfl
  rw [h2]
  exact u8_or (N / 128 ^ k)
theorem u8_andNot (x : Nat) : bits .andNot .u8 (128 + (x : Int) % 128) 128 = ((x % 128 : Nat) : Int) := by
  have h : ∀ y : Fin 128, bits .andNot .u8 ((128 + y.val : Nat) : Int) 128 = ((y.val : Nat) : Int) := by decide +kernel
  have := h ⟨x % 128, Nat.mod_lt _ (by omega)⟩
  simpa using this
theorem gput_core (N s : Nat) (w : World) (hN : (N : Int) ≤ 268435455) (hs : Hid (gsize N = s)) :
    Calls Tryd.prog 21 #[.int .i64 N] w fun e w' => e = .returned (.tuple #[.slice (some ⟨w.heap.size, 0, none⟩) s s, .int .i64 0]) ∧ w.alloc (.cells (vals (grp N)).toArray 5) = w' := by
  have hnn : 0 ≤ (N : Int) := by omega
  have h1 : 1 ≤ (s : Int) := by have := gsize_pos N; rw [hs.out] at this; omega
  have h2 : (s : Int) ≤ 4 := by have := gsize_pos N; rw [hs.out] at this; omega
  obtain ⟨i0, hi0, hz0, hz1, hz2⟩ := info_parts byte_info
  have hmk : ∀ W, (Instr.makeSlice 25 (.int .i64 (s : Int)) (.int .i64 (s : Int))).run Tryd.prog W = .ok (.slice (some ⟨W.heap.size, 0, none⟩) s s) (W.alloc (.cells (garr s 0 N) 5)) := fun W => by
    have := run_make (P := Tryd.prog) W 25 5 i0 (.int .u8 0) Tryd.underlying25 hi0 hz0 .i64 .i64 s s (by omega) (by omega) (by rw [hz2]; omega) (by omega)
    rw [this, hz1]
    have e : madeCells (Value.cells (.int .u8 0)) ((s : Int).toNat * 1) = garr s 0 N := by
      apply Array.toList_inj.1
      rw [show Value.cells (.int .u8 0) = #[.int .u8 0] from rfl, toList_madeCells_one]
      simp [garr, hi, vals]
    rw [e, Int.toNat_natCast]
  clear hi0 hz0 hz1 hz2
  go_enter Tryd.func21, Tryd.ntmps21
  go_wp2_with (go_at_call 41; refine (gsize_core _ s _ hN hs).mono ?_; rintro e w' ⟨rfl, rfl⟩)
  clear hmk
  go_loopw [14] (fun i wr => ∃ k : Nat, k ≤ s ∧ i = .int .i64 k ∧ wr = w.alloc (.cells (garr s k N) 5)) (fun i _ => s - (intOf i).toNat)
  case atStart => exact ⟨0, Nat.zero_le _, rfl, rfl⟩
  case round =>
    obtain ⟨k, hk, rfl, rfl⟩ := hrel
    by_cases hlt : k < s
    · have hcell : (w.alloc (.cells (garr s k N) 5)).cell? ⟨w.heap.size, s - 1 - k, none⟩ = some (.int .u8 0) := by
        rw [World.cell?_alloc_mark]
        exact garr_cell s k N hlt
      go_wp2
      go_roundw
      case rel =>
        refine ⟨k + 1, by omega, by go_num, ?_⟩
        rw [group_byte, garr_set s k N hlt]
      case measure => simp [intOf]; omega
    · have hks : k = s := by omega
      subst hks
      obtain ⟨hc1, hc2⟩ := garr_last N k hs.out
      have hcell : (w.alloc (.cells (garr k k N) 5)).cell? ⟨w.heap.size, k - 1, none⟩ = some (.int .u8 ((128 + N % 128 : Nat) : Int)) := by
        rw [World.cell?_alloc_mark]
        exact hc1
      have HC2 := Lib.hid hc2
      clear hc1 hc2 hs
      go_wp2
      go_ret2
      exact ⟨rfl, by rw [u8_andNot, HC2.out]⟩
theorem gput_ok (n : Int) (w : World) (h0 : 0 ≤ n) (h : n ≤ 268435455) :
    Calls Tryd.prog 21 #[.int .i64 n] w fun e w' => e = .returned (.tuple #[.slice (some ⟨w.heap.size, 0, none⟩) (gsize n.toNat) (gsize n.toNat), .int .i64 0]) ∧ w.alloc (.cells (vals (grp n.toNat)).toArray 5) = w' := by
  obtain ⟨N, rfl⟩ := Int.eq_ofNat_of_zero_le h0
  rw [Int.toNat_natCast]
  exact gput_core N _ w h rfl
theorem gput_no (n : Int) (w : World) (h : ¬ (0 ≤ n ∧ n ≤ 268435455)) :
    Calls Tryd.prog 21 #[.int .i64 n] w fun e w' => e = .returned (.tuple #[.slice none 0 0, .int .i64 1]) ∧ w = w' := by
  go_enter Tryd.func21, Tryd.ntmps21
  go_wp2_with (go_at_call 41; refine (gsize_out _ _ h).mono ?_; rintro e w' ⟨rfl, rfl⟩)
  go_ret2
  exact ⟨rfl, rfl⟩
theorem gput_any (n : Int) (w : World) : Calls Tryd.prog 21 #[.int .i64 n] w fun e w' =>
    ∃ v, e = .returned (.tuple #[v, .int .i64 (putG n).2]) ∧ IsB w' v (putG n).1 ∧ Below w.heap.size w w' := by
  by_cases h : 0 ≤ n ∧ n ≤ 268435455
  · rw [putG, if_pos h]
    refine (gput_ok n w h.1 h.2).mono ?_
    rintro e w' ⟨rfl, rfl⟩
    exact ⟨_, rfl, IsB.new _ _ _ _ _ (grp_length _) (by have := gsize_pos n.toNat; unfold maxLen; omega), (Below.refl _ _).alloc (Nat.le_refl _) _⟩
  · rw [putG, if_neg h]
    refine (gput_no n w h).mono ?_
    rintro e w' ⟨rfl, rfl⟩
    exact ⟨_, rfl, IsB.nil_ _, Below.refl _ _⟩

/-- the steps of Take, in the program's own words -/
theorem shl_or (y c : Nat) (hy : y ≤ 2097151) (hc : c < 128) : bits .or .i64 ((y : Int) * 128) (c : Int) = ((y * 128 + c : Nat) : Int) := by
  have h : ((y : Int) * 128) = ((y * 128 : Nat) : Int) := by omega
  rw [h, i64_or_nat _ _ (by omega) (by omega), or_seven _ _ hc]
set_option maxRecDepth 100000 in
set_option maxHeartbeats 1000000 in
theorem gtake_core (A : Option Addr) (n c : Nat) (l : List UInt8) (w : World) (hl : Hid (l.length = n)) (hnc : n ≤ c) (hcm : c ≤ maxLen) (hA : Hid (Has w A (vals l))) :
    Calls Tryd.prog 76 #[.slice A n c] w fun e w' => e = .returned (.tuple #[.int .i64 (takeG l).1, .int .i64 (takeG l).2.1, .int .i64 (takeG l).2.2]) ∧ w = w' := by
  unfold maxLen at hcm
  obtain ⟨R, hR⟩ : ∃ R, takeG l = R := ⟨_, rfl⟩
  rw [hR]
  have HR := Lib.hid hR
  clear hR
  go_enter Tryd.func76, Tryd.ntmps76
  go_wp2
  go_step3
  go_wp2
  go_step3
  go_wp2
  go_loop [2, 3, 4, 9] (fun x u e i => ∃ k y : Nat, k ≤ 3 ∧ k ≤ n ∧ i = .int .i64 k ∧ x = .int .i64 y ∧ u = .int .i64 0 ∧ e = .int .i64 2 ∧ y ≤ 2097151 ∧ Hid (y < 128 ^ k) ∧ Hid (R = gtkR k y (l.drop k))) (fun _ _ _ i => 4 - (intOf i).toNat)
  case atStart => exact ⟨0, 0, by omega, by omega, rfl, rfl, rfl, rfl, by omega, by simp [Hid], by show _ = _; rw [← HR.out]; rfl⟩
  case round =>
    obtain ⟨k, y, hk, hkn, rfl, rfl, rfl, rfl, hy, HY, HT⟩ := hrel
    by_cases hlt : k < n
    · have hkl : k < l.length := by rw [hl.out]; exact hlt
      obtain ⟨ad, rfl, hcell⟩ := hA.out.at_ (k := k) (by rw [vals_length]; exact hkl)
      rw [vals_at l k hkl] at hcell
      obtain ⟨b, hb⟩ : ∃ b, l[k] = b := ⟨_, rfl⟩
      rw [hb] at hcell
      have HD : Hid (R = gtkR k y (b :: l.drop (k + 1))) := by
        show _ = _
        rw [HT.out, List.drop_eq_getElem_cons hkl, hb]
      clear hb HT
      have hb2 : b.toNat ≤ 255 := by have := b.toNat_lt; omega
      by_cases hb : b.toNat < 128
      · have HE : Hid (R = (((y * 128 + b.toNat : Nat) : Int), ((k + 1 : Nat) : Int), 0)) := by
          show _ = _
          rw [HD.out, gtkR_last _ _ _ _ hb]
        have hor := shl_or y b.toNat hy hb
        clear HD
        go_wp2
        go_ret3
        exact ⟨by rw [HE.out]; rfl, rfl⟩
      · have hb3 : ¬ ((b.toNat : Int) < 128) := by omega
        by_cases hf : (k = 0 ∧ b.toNat = 128) ∨ k = 3
        · have HE : Hid (R = (0, 0, 3)) := by
            show _ = _
            rw [HD.out, gtkR_form _ _ _ _ (by omega) hf]
          clear HD
          by_cases hk3 : k = 3
          · have t1 : ((k : Int) == 3) = true := beq_iff_eq.2 (by omega)
            have t2 : ((k : Int) == 0) = false := by rw [beq_eq_false_iff_ne]; omega
            clear hf hk3
            go_wp2
            go_ret3
            exact ⟨by rw [HE.out]; rfl, rfl⟩
          · have t1 : ((k : Int) == 0) = true := beq_iff_eq.2 (by omega)
            have t2 : ((b.toNat : Int) == 128) = true := beq_iff_eq.2 (by omega)
            clear hf hk3
            go_wp2
            go_ret3
            exact ⟨by rw [HE.out]; rfl, rfl⟩
        · have hy2 : y * 128 + (b.toNat - 128) < 128 ^ (k + 1) := by
            have := HY.out
            rw [Nat.pow_succ]
            omega
          have hk2 : k + 1 ≤ 3 := by omega
          have HE : Hid (R = gtkR (k + 1) (y * 128 + (b.toNat - 128)) (l.drop (k + 1))) := by
            show _ = _
            rw [HD.out, gtkR_more _ _ _ _ (by omega) (by omega) (by omega)]
          clear HD
          have t3 : ((k : Int) == 3) = false := by rw [beq_eq_false_iff_ne]; omega
          have hy3 : y * 128 + (b.toNat - 128) ≤ 2097151 := by
            have h5 : 128 ^ (k + 1) ≤ 128 ^ 3 := Nat.pow_le_pow_right (by omega) hk2
            have h6 : 128 ^ 3 = 2097152 := rfl
            omega
          obtain ⟨d, hd⟩ : ∃ d, b.toNat = d + 128 := ⟨b.toNat - 128, by omega⟩
          rw [hd] at hcell HE hy3 hy2 hb2
          rw [Nat.add_sub_cancel] at HE hy3 hy2
          have hor := shl_or y d hy (by omega)
          have HY2 := Lib.hid hy2
          have hsub : ((d + 128 : Nat) : Int) - 128 = (d : Int) := by omega
          have hb4 : ¬ (((d + 128 : Nat) : Int) < 128) := by omega
          rcases (by omega : k = 0 ∧ d ≠ 0 ∨ 0 < k) with ⟨h7, h8⟩ | h7
          · have t1 : ((k : Int) == 0) = true := beq_iff_eq.2 (by omega)
            have t2 : (((d + 128 : Nat) : Int) == 128) = false := by rw [beq_eq_false_iff_ne]; omega
            clear hf hb hb3 hy2 hd h7
            go_wp2
            go_round
            case rel => exact ⟨k + 1, y * 128 + d, hk2, by omega, by go_num, by go_num, rfl, rfl, hy3, HY2, HE⟩
            case measure => simp [intOf]; omega
          · have t1 : ((k : Int) == 0) = false := by rw [beq_eq_false_iff_ne]; omega
            clear hf hb hb3 hy2 hd
            go_wp2
            go_round
            case rel => exact ⟨k + 1, y * 128 + d, hk2, by omega, by go_num, by go_num, rfl, rfl, hy3, HY2, HE⟩
            case measure => simp [intOf]; omega
    · have HE : Hid (R = (0, 0, 2)) := by
        show _ = _
        rw [HT.out, List.drop_eq_nil_of_le (by rw [hl.out]; omega)]
        rfl
      go_wp2
      go_ret3
      exact ⟨by rw [HE.out]; rfl, rfl⟩
theorem gtake_any (v : Value) (l : List UInt8) (w : World) (hv : IsB w v l) : Calls Tryd.prog 76 #[v] w fun e w' => e = .returned (.tuple #[.int .i64 (takeG l).1, .int .i64 (takeG l).2.1, .int .i64 (takeG l).2.2]) ∧ w = w' := by
  obtain ⟨A, n, c, rfl, hnc, hcm, hl, hA⟩ := hv
  exact gtake_core A n c l w hl hnc hcm hA
end Go.Proofs.YtohggpaffmcfoaaDoor
end
section
namespace Go.Proofs.YtohggpaffmcfoaaDoor
open Go.RowKit
set_option linter.unusedVariables false
set_option maxRecDepth 100000
set_option linter.unusedSimpArgs false

/-- the package's table, as its initialiser lays it -/
def Tab (w : World) : Prop := ∀ k : Nat, k < 16 → w.cell? ⟨0, k, none⟩ = some (.int .u32 ((hfs 4 k : Nat) : Int))
theorem Tab.bel {w w' : World} (h : Tab w) (hb : Below w.heap.size w w') : Tab w' := fun k hk => by
  have h1 := h k hk
  rw [hb.cell (World.block_lt_of_cell? w _ h1)]
  exact h1
theorem Tab.drewN {w : World} (h : Tab w) (k : Nat) : Tab (w.drewN k) := h

theorem u32_and15 (x : Nat) (h : x ≤ 4294967295) : bits .and .u32 (x : Int) 15 = ((x % 16 : Nat) : Int) := by
  have := u32_and_nat x 15 (by omega) (by omega)
  rw [show (15 : Nat) = 2 ^ 4 - 1 from rfl, Nat.and_two_pow_sub_one_eq_mod] at this
  exact this
theorem hfs4 (x : Nat) : hfs 4 x = (x / 16) ^^^ hfs 4 (x % 16) := hfs_split 4 x
theorem hfs8 (x : Nat) : hfs 8 x = hfs 4 (hfs 4 x) := (hfs_add 4 4 x).symm

theorem half_step (x : Nat) (h : (x : Int) ≤ 4294967295) : bits .xor .u32 ((x : Int) / 16) ((hfs 4 (x % 16) : Nat) : Int) = ((hfs 4 x : Nat) : Int) := by
  have := u32_xor_nat (x / 16) (hfs 4 (x % 16)) (by omega) (hfs_lt 4 _ (by omega))
  rw [← hfs4] at this
  rw [← this]
  rfl
theorem step_any (s c : Nat) (w : World) (hs : (s : Int) ≤ 4294967295) (hc : (c : Int) ≤ 255) (ht : Hid (Tab w)) :
    Calls Tryd.prog 89 #[.int .u32 s, .int .u8 c] w fun e w' => e = .returned (.int .u32 ((stepN s c : Nat) : Int)) ∧ w = w' := by
  have e1 := u32_xor_nat s c (by omega) (by omega)
  have l1 : s ^^^ c < 4294967296 := Nat.xor_lt_two_pow (n := 32) (by omega) (by omega)
  have HS : Hid (stepN s c = hfs 4 (hfs 4 (s ^^^ c))) := hfs8 _
  generalize s ^^^ c = x at *
  have hx : (x : Int) ≤ 4294967295 := by omega
  have e2 := u32_and15 x (by omega)
  have t1 := ht.out (x % 16) (by omega)
  have e3 := half_step x hx
  have l3 := hfs_lt 4 x (by omega)
  generalize hfs 4 x = y at *
  have hy : (y : Int) ≤ 4294967295 := by omega
  have e4 := u32_and15 y (by omega)
  have t2 := ht.out (y % 16) (by omega)
  have e5 := half_step y hy
  clear l1 l3
  go_enter Tryd.func89, Tryd.ntmps89
  go_wp2
  go_ret
  exact ⟨by rw [HS.out]; rfl, rfl⟩
theorem u32_flip (s : Nat) (h : (s : Int) ≤ 4294967295) : bits .xor .u32 IntKind.u32.max (s : Int) = ((flipN s : Nat) : Int) := by
  have := u32_xor_nat 4294967295 s (by omega) (by omega)
  rw [Nat.xor_comm, xor_ones s (by omega)] at this
  exact this
theorem more_core (s : Nat) (A : Option Addr) (n c : Nat) (l : List UInt8) (w : World) (hs : (s : Int) ≤ 4294967295) (hl : Hid (l.length = n)) (hnc : n ≤ c) (hcm : c ≤ maxLen) (hA : Hid (Has w A (vals l))) (ht : Hid (Tab w)) :
    Calls Tryd.prog 80 #[.int .u32 s, .slice A n c] w fun e w' => e = .returned (.int .u32 ((moreN s l : Nat) : Int)) ∧ w = w' := by
  unfold maxLen at hcm
  obtain ⟨R, hR⟩ : ∃ R, moreN s l = R := ⟨_, rfl⟩
  rw [hR]
  have HR := Lib.hid hR
  clear hR
  have e1 := u32_flip s hs
  go_enter Tryd.func80, Tryd.ntmps80
  go_wp2
  go_loop [0, 11] (fun x i => ∃ k y : Nat, k ≤ n ∧ i = .int .i64 k ∧ x = .int .u32 y ∧ (y : Int) ≤ 4294967295 ∧ Hid (y = runN (flipN s) (l.take k))) (fun _ i => n - (intOf i).toNat)
  case atStart => exact ⟨0, flipN s, by omega, rfl, rfl, by have := flipN_le s; omega, rfl⟩
  case round =>
    obtain ⟨k, y, hk, rfl, rfl, hy, HY⟩ := hrel
    by_cases hlt : k < n
    · have hkl : k < l.length := by rw [hl.out]; exact hlt
      obtain ⟨ad, rfl, hcell⟩ := hA.out.at_ (k := k) (by rw [vals_length]; exact hkl)
      rw [vals_at l k hkl] at hcell
      have HD : Hid (stepN y l[k].toNat = runN (flipN s) (l.take (k + 1))) := by
        show _ = _
        rw [HY.out, runN_take _ _ _ hkl]
      have hb2 : (l[k].toNat : Int) ≤ 255 := by have := l[k].toNat_lt; omega
      have hz : (stepN y l[k].toNat : Int) ≤ 4294967295 := by have := stepN_lt y l[k].toNat (by omega) l[k].toNat_lt; omega
      generalize l[k].toNat = b at *
      go_wp2_with fail
      refine (step_any y b _ hy hb2 ht).mono ?_
      rintro e w' ⟨rfl, rfl⟩
      generalize stepN y b = z at *
      go_wp2_with fail
      go_round
      case rel => exact ⟨k + 1, z, by omega, by go_num, rfl, hz, HD⟩
      case measure => simp [intOf]; omega
    · have hks : k = n := by omega
      subst hks
      have e2 := u32_flip y hy
      have HE : Hid (R = flipN y) := by
        show _ = _
        rw [← HR.out, HY.out, ← hl.out, List.take_length]
        rfl
      clear e1
      go_wp2
      go_ret
      exact ⟨by rw [HE.out]; rfl, rfl⟩
theorem more_any (s : Nat) (v : Value) (l : List UInt8) (w : World) (hs : (s : Int) ≤ 4294967295) (hv : IsB w v l) (ht : Hid (Tab w)) :
    Calls Tryd.prog 80 #[.int .u32 s, v] w fun e w' => e = .returned (.int .u32 ((moreN s l : Nat) : Int)) ∧ w = w' := by
  obtain ⟨A, n, c, rfl, hnc, hcm, hl, hA⟩ := hv
  exact more_core s A n c l w hs hl hnc hcm hA ht
theorem sum_any (v : Value) (l : List UInt8) (w : World) (hv : IsB w v l) (ht : Hid (Tab w)) :
    Calls Tryd.prog 60 #[v] w fun e w' => e = .returned (.int .u32 ((sumN l : Nat) : Int)) ∧ w = w' := by
  obtain ⟨A, n, c, rfl, hnc, hcm, hl, hA⟩ := hv
  have HX := Lib.hid hcm
  have HL := Lib.hid hl
  have HA := Lib.hid hA
  clear hcm hl hA
  go_enter Tryd.func60, Tryd.ntmps60
  go_wp2_with fail
  refine (more_core 0 A n c l _ (by omega) HL.out hnc HX.out HA.out ht).mono ?_
  rintro e w' ⟨rfl, rfl⟩
  rw [show moreN 0 l = sumN l from rfl]
  go_wp2_with fail
  go_ret
  exact ⟨rfl, rfl⟩
end Go.Proofs.YtohggpaffmcfoaaDoor
end
section
namespace Go.Proofs.YtohggpaffmcfoaaDoor
open Go.RowKit
set_option linter.unusedVariables false
set_option maxRecDepth 100000
set_option linter.unusedSimpArgs false

def mayB (n : Int) : Bool := decide (1 ≤ n ∧ n ≤ 4)
theorem mayB_yes {n : Int} (h : 1 ≤ n ∧ n ≤ 4) : mayB n = true := by simp [mayB, h]
theorem mayB_no {n : Int} (h : ¬ (1 ≤ n ∧ n ≤ 4)) : mayB n = false := by simp only [mayB, decide_eq_false_iff_not]; exact h
theorem sizeMay_any (n : Int) (w : World) : Calls Tryd.prog 73 #[.int .i64 n] w fun e w' => e = .returned (.bool (mayB n)) ∧ w = w' := by
  by_cases h1 : 1 ≤ n <;> by_cases h2 : n ≤ 4
  all_goals
    go_enter Tryd.func73, Tryd.ntmps73
    go_wp2
    go_ret
    refine ⟨?_, rfl⟩
    simp [mayB, h1, h2]

/-- what Put holds after k rounds -/
def arr (s k n : Nat) : Array Value := (vals (List.replicate (s - k) 0 ++ be k n)).toArray
theorem arr_cell (s k n : Nat) (h : k < s) : (arr s k n)[s - 1 - k]? = some (.int .u8 0) := by
  simp only [arr, vals, List.getElem?_toArray, List.getElem?_map]
  rw [List.getElem?_append_left (by simp; omega), List.getElem?_replicate, if_pos (by omega)]
  rfl
theorem arr_set (s k n : Nat) (h : k < s) : (arr s k n).setIfInBounds (s - 1 - k) (.int .u8 ((n : Int) / 2 ^ (8 * k) % 256)) = arr s (k + 1) n := by
  have e : (n : Int) / 2 ^ (8 * k) % 256 = ((UInt8.ofNat (n / 256 ^ k)).toNat : Int) := by
    have h2 : (2 : Int) ^ (8 * k) = ((256 ^ k : Nat) : Int) := by
      rw [show (256 : Nat) ^ k = 2 ^ (8 * k) from by rw [Nat.pow_mul], Int.natCast_pow]
      rfl
    rw [toNat_ofNat_mod, h2]
    rfl
  rw [e, arr, arr, be_head]
  obtain ⟨d, rfl⟩ : ∃ d, s = k + 1 + d := ⟨s - (k + 1), by omega⟩
  have h1 : k + 1 + d - k = d + 1 := by omega
  have h2 : k + 1 + d - (k + 1) = d := by omega
  have h3 : k + 1 + d - 1 - k = d := by omega
  rw [h1, h2, h3, List.replicate_succ', List.append_assoc, vals_append, vals_append]
  simp only [List.setIfInBounds_toArray]
  rw [List.set_append_right _ _ (by simp [vals])]
  simp [vals]
theorem pow_wrap (s : Nat) (h1 : 1 ≤ s) (h2 : s ≤ 4) : wrap64 (2 ^ (8 * s)) = ((256 ^ s : Nat) : Int) := by
  have : s = 1 ∨ s = 2 ∨ s = 3 ∨ s = 4 := by omega
  rcases this with rfl | rfl | rfl | rfl <;> (rw [IntWalk.wrap64_in _ (by decide)]; rfl)
theorem put_core (n s : Nat) (w : World) (hn : (n : Int) < wrap64 (2 ^ (8 * s))) (h1 : 1 ≤ (s : Int)) (h2 : (s : Int) ≤ 4) :
    Calls Tryd.prog 43 #[.int .i64 n, .int .i64 s] w fun e w' => e = .returned (.tuple #[.slice (some ⟨w.heap.size, 0, none⟩) s s, .int .i64 0]) ∧ w.alloc (.cells (vals (be s n)).toArray 5) = w' := by
  have hb : mayB s = true := mayB_yes ⟨h1, h2⟩
  have hnn : 0 ≤ (n : Int) := by omega
  obtain ⟨i0, hi0, hz0, hz1, hz2⟩ := info_parts byte_info
  have hmk : ∀ W, (Instr.makeSlice 25 (.int .i64 (s : Int)) (.int .i64 (s : Int))).run Tryd.prog W = .ok (.slice (some ⟨W.heap.size, 0, none⟩) s s) (W.alloc (.cells (arr s 0 n) 5)) := fun W => by
    have := run_make (P := Tryd.prog) W 25 5 i0 (.int .u8 0) Tryd.underlying25 hi0 hz0 .i64 .i64 s s (by omega) (by omega) (by rw [hz2]; omega) (by omega)
    rw [this, hz1]
    have e : madeCells (Value.cells (.int .u8 0)) ((s : Int).toNat * 1) = arr s 0 n := by
      apply Array.toList_inj.1
      rw [show Value.cells (.int .u8 0) = #[.int .u8 0] from rfl, toList_madeCells_one]
      simp [arr, be, vals]
    rw [e, Int.toNat_natCast]
  clear hi0 hz0 hz1 hz2
  go_enter Tryd.func43, Tryd.ntmps43
  go_wp2_with (go_at_call 73; refine (sizeMay_any _ _).mono ?_; rintro e w' ⟨rfl, rfl⟩)
  clear hmk hb hn
  go_loopw [7, 25] (fun _ i wr => ∃ k : Nat, k ≤ s ∧ i = .int .i64 k ∧ wr = w.alloc (.cells (arr s k n) 5)) (fun _ i _ => s - (intOf i).toNat)
  case atStart => exact ⟨0, Nat.zero_le _, rfl, rfl⟩
  case round =>
    obtain ⟨k, hk, rfl, rfl⟩ := hrel
    by_cases hlt : k < s
    · have hcell : (w.alloc (.cells (arr s k n) 5)).cell? ⟨w.heap.size, s - 1 - k, none⟩ = some (.int .u8 0) := by
        rw [World.cell?_alloc_mark]
        exact arr_cell s k n hlt
      go_wp2
      go_roundw
      case rel => exact ⟨k + 1, by omega, by go_num, by rw [arr_set s k n hlt]⟩
      case measure => simp [intOf]; omega
    · go_wp2
      go_ret2
      have : k = s := by omega
      subst this
      exact ⟨rfl, by simp [arr]⟩
/-- Put of what fits: the bytes, in a block of their own. -/
theorem put_ok (n size : Int) (w : World) (h1 : 1 ≤ size) (h2 : size ≤ 4) (h0 : 0 ≤ n) (hn : n.toNat < 256 ^ size.toNat) :
    Calls Tryd.prog 43 #[.int .i64 n, .int .i64 size] w fun e w' => e = .returned (.tuple #[.slice (some ⟨w.heap.size, 0, none⟩) size.toNat size.toNat, .int .i64 0]) ∧ w.alloc (.cells (vals (be size.toNat n.toNat)).toArray 5) = w' := by
  obtain ⟨m, rfl⟩ := Int.eq_ofNat_of_zero_le h0
  obtain ⟨s, rfl⟩ := Int.eq_ofNat_of_zero_le (show 0 ≤ size by omega)
  rw [Int.toNat_natCast, Int.toNat_natCast] at hn ⊢
  refine put_core m s w ?_ h1 h2
  rw [pow_wrap s (by omega) (by omega)]
  exact Int.ofNat_lt.2 hn
/-- Put of what does not fit. -/
theorem put_no (n size : Int) (w : World) (h : ¬ (1 ≤ size ∧ size ≤ 4) ∨ n < 0 ∨ 256 ^ size.toNat ≤ n.toNat) :
    Calls Tryd.prog 43 #[.int .i64 n, .int .i64 size] w fun e w' => e = .returned (.tuple #[.slice none 0 0, .int .i64 1]) ∧ w = w' := by
  by_cases hs : 1 ≤ size ∧ size ≤ 4
  · have hb := mayB_yes hs
    obtain ⟨s, rfl⟩ := Int.eq_ofNat_of_zero_le (show 0 ≤ size by omega)
    rw [Int.toNat_natCast] at h
    by_cases h0 : n < 0
    · go_enter Tryd.func43, Tryd.ntmps43
      go_wp2_with (go_at_call 73; refine (sizeMay_any _ _).mono ?_; rintro e w' ⟨rfl, rfl⟩)
      go_ret2
      exact ⟨rfl, rfl⟩
    · obtain ⟨m, rfl⟩ := Int.eq_ofNat_of_zero_le (show 0 ≤ n by omega)
      have hge : wrap64 (2 ^ (8 * s)) ≤ (m : Int) := by
        rw [pow_wrap s (by omega) (by omega)]
        have h3 : 256 ^ s ≤ m := by
          rcases h with h | h | h
          · exact absurd hs h
          · omega
          · simpa using h
        exact Int.ofNat_le.2 h3
      clear h h0
      obtain ⟨hs1, hs2⟩ := hs
      go_enter Tryd.func43, Tryd.ntmps43
      go_wp2_with (go_at_call 73; refine (sizeMay_any _ _).mono ?_; rintro e w' ⟨rfl, rfl⟩)
      all_goals first | (go_ret2; exact ⟨rfl, rfl⟩) | skip
  · have hb := mayB_no hs
    clear h
    go_enter Tryd.func43, Tryd.ntmps43
    go_wp2_with (go_at_call 73; refine (sizeMay_any _ _).mono ?_; rintro e w' ⟨rfl, rfl⟩)
    go_ret2
    exact ⟨rfl, rfl⟩

theorem take_bad (A : Option Addr) (n c : Nat) (size : Int) (w : World) (h : ¬ (1 ≤ size ∧ size ≤ 4)) :
    Calls Tryd.prog 95 #[.slice A n c, .int .i64 size] w fun e w' => e = .returned (.tuple #[.int .i64 0, .int .i64 1]) ∧ w = w' := by
  have hb := mayB_no h
  clear h
  go_enter Tryd.func95, Tryd.ntmps95
  go_wp2_with (go_at_call 73; refine (sizeMay_any _ _).mono ?_; rintro e w' ⟨rfl, rfl⟩)
  go_ret2
  exact ⟨rfl, rfl⟩
theorem take_short (A : Option Addr) (n c : Nat) (size : Int) (w : World) (h1 : 1 ≤ size) (h2 : size ≤ 4) (hn : (n : Int) < size) :
    Calls Tryd.prog 95 #[.slice A n c, .int .i64 size] w fun e w' => e = .returned (.tuple #[.int .i64 0, .int .i64 2]) ∧ w = w' := by
  have hb := mayB_yes ⟨h1, h2⟩
  go_enter Tryd.func95, Tryd.ntmps95
  go_wp2_with (go_at_call 73; refine (sizeMay_any _ _).mono ?_; rintro e w' ⟨rfl, rfl⟩)
  go_ret2
  exact ⟨rfl, rfl⟩
theorem take_core (A : Option Addr) (n c : Nat) (l : List UInt8) (s : Nat) (w : World) (hl : l.length = n) (hn : n ≤ maxLen) (hA : Has w A (vals l)) (h1 : 1 ≤ (s : Int)) (h2 : (s : Int) ≤ 4) (hs : (s : Int) ≤ n) :
    Calls Tryd.prog 95 #[.slice A n c, .int .i64 s] w fun e w' => e = .returned (.tuple #[.int .i64 (val (l.take s)), .int .i64 0]) ∧ w = w' := by
  have hb := mayB_yes ⟨h1, h2⟩
  unfold maxLen at hn
  have HL := Lib.hid hl
  clear hl
  obtain ⟨ad, rfl, hc⟩ := hA (by rw [vals_length, HL.out]; omega)
  go_enter Tryd.func95, Tryd.ntmps95
  go_wp2_with (go_at_call 73; refine (sizeMay_any _ _).mono ?_; rintro e w' ⟨rfl, rfl⟩)
  clear hb
  go_loop [4, 6, 15] (fun n _ i => ∃ k : Nat, k ≤ s ∧ i = .int .i64 k ∧ n = .int .i64 (val (l.take k))) (fun _ _ i => s - (intOf i).toNat)
  case atStart => exact ⟨0, Nat.zero_le _, rfl, rfl⟩
  case round =>
    obtain ⟨k, hk, rfl, rfl⟩ := hrel
    by_cases hlt : k < s
    · have hkl : k < l.length := by rw [HL.out]; omega
      have hcell : w.cell? (ad.add k) = some (.int .u8 (l[k].toNat : Int)) := hc k _ (by rw [List.getElem?_eq_getElem (by rw [vals_length]; exact hkl), vals_at])
      have hv := val_take_lt l k
      have hv2 : val (l.take k) < 16777216 := Nat.lt_of_lt_of_le hv (Nat.le_trans (Nat.pow_le_pow_right (by omega) (show k ≤ 3 by omega)) (by decide))
      have hby := l[k].toNat_lt
      clear hc hv
      go_wp2
      go_round
      case rel =>
        refine ⟨k + 1, by omega, by go_num, ?_⟩
        have e : ((val (l.take k) : Int) * 256) = ((val (l.take k) * 256 : Nat) : Int) := by omega
        rw [e, i64_or_nat _ _ (by omega) (by omega), or_byte _ _ (by omega), val_take_succ l k hkl]
      case measure => simp [intOf]; omega
    · go_wp2
      go_ret2
      have : k = s := by omega
      subst this
      exact ⟨rfl, rfl⟩
/-- Take of bytes that are enough. -/
theorem take_ok (A : Option Addr) (n c : Nat) (l : List UInt8) (size : Int) (w : World) (hl : l.length = n) (hn : n ≤ maxLen) (hA : Has w A (vals l)) (h1 : 1 ≤ size) (h2 : size ≤ 4) (hs : size ≤ n) :
    Calls Tryd.prog 95 #[.slice A n c, .int .i64 size] w fun e w' => e = .returned (.tuple #[.int .i64 (val (l.take size.toNat)), .int .i64 0]) ∧ w = w' := by
  obtain ⟨s, rfl⟩ := Int.eq_ofNat_of_zero_le (show 0 ≤ size by omega)
  rw [Int.toNat_natCast]
  exact take_core A n c l s w hl hn hA h1 h2 hs

/-- what Put tells, whatever it is asked -/
def putS (n size : Int) : List UInt8 × Int := if (1 ≤ size ∧ size ≤ 4) ∧ 0 ≤ n ∧ n.toNat < 256 ^ size.toNat then (be size.toNat n.toNat, 0) else ([], 1)
theorem put_any (n size : Int) (w : World) : Calls Tryd.prog 43 #[.int .i64 n, .int .i64 size] w fun e w' =>
    ∃ v, e = .returned (.tuple #[v, .int .i64 (putS n size).2]) ∧ IsB w' v (putS n size).1 ∧ Below w.heap.size w w' := by
  by_cases h : (1 ≤ size ∧ size ≤ 4) ∧ 0 ≤ n ∧ n.toNat < 256 ^ size.toNat
  · rw [putS, if_pos h]
    refine (put_ok n size w h.1.1 h.1.2 h.2.1 h.2.2).mono ?_
    rintro e w' ⟨rfl, rfl⟩
    exact ⟨_, rfl, IsB.new _ _ _ _ _ (be_length _ _) (by unfold maxLen; omega), (Below.refl _ _).alloc (Nat.le_refl _) _⟩
  · rw [putS, if_neg h]
    refine (put_no n size w ?_).mono ?_
    · by_cases h1 : 1 ≤ size ∧ size ≤ 4
      · right
        by_cases h2 : n < 0
        · exact .inl h2
        · right
          by_cases h3 : 256 ^ size.toNat ≤ n.toNat
          · exact h3
          · exact absurd ⟨h1, by omega, by omega⟩ h
      · exact .inl h1
    · rintro e w' ⟨rfl, rfl⟩
      exact ⟨_, rfl, IsB.nil_ _, Below.refl _ _⟩
/-- what Take tells -/
def takeS (l : List UInt8) (size : Int) : Int × Int := if 1 ≤ size ∧ size ≤ 4 then (if (l.length : Int) < size then (0, 2) else ((val (l.take size.toNat) : Int), 0)) else (0, 1)
theorem take_any (v : Value) (l : List UInt8) (size : Int) (w : World) (hv : IsB w v l) : Calls Tryd.prog 95 #[v, .int .i64 size] w fun e w' =>
    e = .returned (.tuple #[.int .i64 (takeS l size).1, .int .i64 (takeS l size).2]) ∧ w = w' := by
  obtain ⟨A, n, c, rfl, hnc, hcm, hl, hA⟩ := hv
  by_cases h : 1 ≤ size ∧ size ≤ 4
  · by_cases h2 : (l.length : Int) < size
    · rw [takeS, if_pos h, if_pos h2]
      exact take_short A n c size w h.1 h.2 (by omega)
    · rw [takeS, if_pos h, if_neg h2]
      exact take_ok A n c l size w hl (by omega) hA h.1 h.2 (by omega)
  · rw [takeS, if_neg h]
    exact take_bad A n c size w h

/-! Row -/
end Go.Proofs.YtohggpaffmcfoaaDoor
end
section
namespace Go.Proofs.YtohggpaffmcfoaaDoor
open Go.RowKit Go.WideShapes Go.ChangeShapes
set_option linter.unusedVariables false
set_option maxRecDepth 100000
set_option linter.unusedSimpArgs false

theorem tab_global : Tryd.prog.globalNamed "theseus/crc.shifted" = some 0 := by kernel_rfl
theorem tab_type : (Tryd.prog.globals[0]?).map (·.type) = some 108 := by kernel_rfl
theorem tab_cells : Tryd.prog.cellsOf 108 = 16 := by kernel_rfl
theorem tab_cell1 : Tryd.prog.cellsOf 36 = 1 := by kernel_rfl
theorem tab_of_laid {W : World} (h : laidMetH Tryd.prog [("theseus/crc.shifted", Rows.laid_theseus_crc_shifted)] W) : Tab W := by
  have ht : Lib.TabIs Tryd.prog W "theseus/crc.shifted" .u32 ((List.range 16).map fun k => ((hfs 4 k : Nat) : Int)) := by
    refine Lib.tabIs_of_head (rest := []) tab_global tab_type Tryd.underlying108 Tryd.underlying36 tab_cell1 tab_cells ?_
    exact h
  intro k hk
  have := ht.cell tab_global k (by simpa using hk)
  rw [show ((List.range 16).map fun k => ((hfs 4 k : Nat) : Int)).getD k 0 = ((hfs 4 k : Nat) : Int) from by simp [List.getElem?_range hk]] at this
  exact this
noncomputable def laidWorld (os : Os) : World :=
  { World.holding Tryd.prog os ⟨#[], #[], []⟩ with heap := (World.holding Tryd.prog os ⟨#[], #[], []⟩).heap.modify 0 fun
      | .cells _ t frozen => .cells ((List.range 16).map fun k => Value.int .u32 ((hfs 4 k : Nat) : Int)).toArray t frozen
      | o => o }
theorem laid_met (os : Os) (args : Array Value) : laidMet Tryd.prog [("theseus/crc.shifted", Rows.laid_theseus_crc_shifted)] ((laidWorld os).forCall (fun _ _ => 0) ⟨#[], args, []⟩).memory :=
  laidMet_of_run' 8 (by kernel_rfl) (by kernel_rfl)
end Go.Proofs.YtohggpaffmcfoaaDoor
end
section
namespace Go.Proofs.YtohggpaffmcfoaaDoor
open Go.RowKit
set_option linter.unusedVariables false
set_option maxRecDepth 100000
set_option linter.unusedSimpArgs false
attribute [local go_sem ↓] sliced_cut
attribute [local go_sem] cutA_zero

theorem rput_bad (n size : Int) (w : World) (h : ¬ (1 ≤ size ∧ size ≤ 4)) :
    Calls Tryd.prog 48 #[.int .i64 n, .int .i64 size] w fun e w' => e = .returned (.tuple #[.slice none 0 0, .int .i64 1]) ∧ w = w' := by
  by_cases h1 : size < 1
  · clear h
    go_enter Tryd.func48, Tryd.ntmps48
    go_wp2
    go_ret2
    exact ⟨rfl, rfl⟩
  · have h2 : 4 < size := by omega
    clear h
    go_enter Tryd.func48, Tryd.ntmps48
    go_wp2
    go_ret2
    exact ⟨rfl, rfl⟩
theorem low_byte (y : Nat) (hy : y < 9223372036854775808) : bits .and .i64 (y : Int) 255 = ((UInt8.ofNat y).toNat : Int) := by
  rw [toNat_ofNat_mod]
  have := i64_and_nat y 255 hy (by omega)
  rw [show (255 : Nat) = 2 ^ 8 - 1 from rfl, Nat.and_two_pow_sub_one_eq_mod] at this
  exact this
theorem rput_pos (n s : Nat) (w : World) (hn : Hid (n < 9223372036854775808)) (h1 : 1 ≤ (s : Int)) (h2 : (s : Int) ≤ 4) :
    Calls Tryd.prog 48 #[.int .i64 n, .int .i64 s] w fun e w' =>
      ∃ v, e = .returned (.tuple #[v, .int .i64 (putS n s).2]) ∧ w'.ownsRow w.heap.size 5 1 v (putS n s).1.length (vals (putS n s).1) ∧ Below w.heap.size w w' := by
  have hn0 : 0 ≤ (n : Int) := by omega
  obtain ⟨B, hB⟩ : ∃ B, w.heap.size = B := ⟨_, rfl⟩
  have HB := Lib.hid hB
  clear hB
  have HI := Lib.hid byte_info
  go_enter Tryd.func48, Tryd.ntmps48
  go_wp2
  go_loopw [6, 7, 8] (fun v x i wr => ∃ k y : Nat, k ≤ s ∧ i = .int .i64 k ∧ x = .int .i64 y ∧ Hid (y = n / 256 ^ k) ∧ Hid (wr.ownsRow B 5 1 v k (vals (be k n))) ∧ Hid (Below B w wr)) (fun _ _ i _ => s - (intOf i).toNat)
  case atStart =>
    refine ⟨0, n, Nat.zero_le _, rfl, rfl, by simp [Hid], ?_, ?_⟩
    · rw [← HB.out]
      exact World.ownsRow_lit (e := 5) (size := 1) w #[] 0 (Nat.le_refl _) (by decide) rfl
    · have := (Below.refl w.heap.size w).alloc (Nat.le_refl _) (.cells #[] 5)
      rw [HB.out] at this
      exact this
  case round =>
    obtain ⟨k, y, hk, rfl, rfl, HY, HV, HBe⟩ := hrel
    by_cases hlt : k < s
    · have hand := low_byte y (by rw [HY.out]; exact Nat.lt_of_le_of_lt (Nat.div_le_self _ _) hn.out)
      have hyn : y < 9223372036854775808 := by rw [HY.out]; exact Nat.lt_of_le_of_lt (Nat.div_le_self _ _) hn.out
      have hdiv : wrap64 ((y : Int) / 256) = ((y / 256 : Nat) : Int) := IntWalk.wrap64_in _ (by omega)
      clear hyn
      have HOL := Lib.hid (World.ownsRow_lit (e := 5) (size := 1) wr (vals [UInt8.ofNat y]).toArray 1 (Nat.le_refl _) (by decide) rfl)
      have hby : (UInt8.ofNat y).toNat ≤ 255 := by have := (UInt8.ofNat y).toNat_lt; omega
      obtain ⟨A, m, c, rfl, hnc, hcm, hl, hA⟩ := IsB.of_own HV.out
      rw [be_length] at hl
      subst hl
      have HA := Lib.hid hA
      have HCM := Lib.hid hcm
      clear hA hcm HV
      obtain ⟨i0, hi0, hz0, hz1, hz2⟩ := info_parts HI.out
      go_wp2_with (at_builtin; refine wpList_append_has _ rfl (.tmp 25) (.tmp 26) _ rfl wr.heap.size 5 i0 (.int .u8 0) 1 Tryd.underlying25 hi0 hz0 hz1 hz2 rfl _ 1 (vals [UInt8.ofNat y]) rfl HOL.out _ k _ (vals (be k n)) rfl (by rw [vals_length, be_length]) (HA.out.alloc _) (vals_one _) (by unfold maxLen; omega) (by omega) (by simp only [World.size_alloc]; omega) ?_; intro v2 w2 hown2 hgrow2 _; have HO := Lib.hid hown2; have HG := Lib.hid hgrow2; clear hown2 hgrow2)
      go_roundw
      case rel =>
        refine ⟨k + 1, y / 256, by omega, by go_num, by rw [hdiv], ?_, ?_, ?_⟩
        · show _ = _
          rw [HY.out, Nat.div_div_eq_div_mul, Nat.pow_succ]
        · have h := HO.out
          rw [← vals_append] at h
          rw [be_head, ← HY.out]
          rw [Nat.add_comm 1 k] at h
          exact own_base h (by have := HBe.out.size; rw [HB.out] at this; exact this)
        · have hz := HBe.out.size
          rw [HB.out] at hz
          have hg : Below wr.heap.size wr w2 := ((Below.refl _ _).alloc (Nat.le_refl _) _).grown HG.out (by simp only [World.size_alloc]; omega) (fun q hq => (HOL.out.lt q hq).1)
          exact HBe.out.trans (hg.mono hz)
      case measure => simp [intOf]; omega
    · have hks : k = s := by omega
      subst hks
      have hput : putS n k = if n < 256 ^ k then (be k n, 0) else ([], 1) := by
        unfold putS
        by_cases h : n < 256 ^ k
        · rw [if_pos h, if_pos ⟨⟨h1, h2⟩, hn0, by simpa using h⟩]
          simp
        · rw [if_neg h, if_neg (fun h3 => h (by simpa using h3.2.2))]
      have hp : 0 < 256 ^ k := Nat.pow_pos (by omega)
      by_cases h : n < 256 ^ k
      · have hy0 : y = 0 := by rw [HY.out]; exact Nat.div_eq_of_lt h
        rw [if_pos h] at hput
        have HF : Hid (Ending.returned (.tuple #[u6, .int .i64 0]) = .returned (.tuple #[u6, .int .i64 (putS n k).2])) := by
          show _ = _
          rw [hput]
        have HV3 : Hid (wr.ownsRow w.heap.size 5 1 u6 (putS n k).1.length (vals (putS n k).1)) := by
          rw [hput, HB.out]
          show wr.ownsRow B _ 1 u6 (be k n).length _
          rw [be_length]
          exact HV.out
        have HBe2 := HBe.out
        rw [← HB.out] at HBe2
        have HB3 := Lib.hid HBe2
        subst hy0
        clear hput h HY HV HBe HBe2
        go_wp2
        go_ret2
        exact ⟨_, HF.out, HV3.out, HB3.out⟩
      · have hy0 : y ≠ 0 := by
          intro h0
          have h3 := HY.out
          rw [h0] at h3
          have := (Nat.div_eq_zero_iff.1 h3.symm)
          omega
        rw [if_neg h] at hput
        have HF : Hid (Ending.returned (.tuple #[.slice none 0 0, .int .i64 1]) = .returned (.tuple #[.slice none 0 0, .int .i64 (putS n k).2])) := by
          show _ = _
          rw [hput]
        have HV3 : Hid (wr.ownsRow w.heap.size 5 1 (.slice none 0 0) (putS n k).1.length (vals (putS n k).1)) := by
          rw [hput]
          exact World.ownsRow_nil _ _ _ _
        have HBe2 := HBe.out
        rw [← HB.out] at HBe2
        have HB3 := Lib.hid HBe2
        have hy1 : ((y : Int) != 0) = true := by rw [bne_iff_ne]; omega
        clear hput h HY HV HBe HBe2
        go_wp2
        go_ret2
        exact ⟨_, HF.out, HV3.out, HB3.out⟩
theorem rput_neg (n : Int) (s : Nat) (w : World) (hn : n < 0) (h1 : 1 ≤ (s : Int)) (h2 : (s : Int) ≤ 4) :
    Calls Tryd.prog 48 #[.int .i64 n, .int .i64 s] w fun e w' =>
      e = .returned (.tuple #[.slice none 0 0, .int .i64 1]) ∧ Below w.heap.size w w' := by
  obtain ⟨B, hB⟩ : ∃ B, w.heap.size = B := ⟨_, rfl⟩
  have HB := Lib.hid hB
  clear hB
  have HI := Lib.hid byte_info
  go_enter Tryd.func48, Tryd.ntmps48
  go_wp2
  go_loopw [6, 7, 8] (fun v x i wr => ∃ (k : Nat) (y : Int) (xs : List Value), k ≤ s ∧ i = .int .i64 k ∧ x = .int .i64 y ∧ Hid (Sl wr v k xs ∧ ∀ u ∈ xs, u.oneCell' = true) ∧ Hid (Below B w wr)) (fun _ _ i _ => s - (intOf i).toNat)
  case atStart =>
    refine ⟨0, n, [], Nat.zero_le _, rfl, rfl, ⟨?_, by simp⟩, ?_⟩
    · exact Sl.of_own (World.ownsRow_lit (e := 5) (size := 1) w #[] 0 (Nat.le_refl _) (by decide) rfl)
    · have := (Below.refl w.heap.size w).alloc (Nat.le_refl _) (.cells #[] 5)
      rw [HB.out] at this
      exact this
  case round =>
    obtain ⟨k, y, xs, hk, rfl, rfl, HV, HBe⟩ := hrel
    by_cases hlt : k < s
    · obtain ⟨⟨A, c, rfl, hnc, hcm, hl, hA⟩, hone⟩ := HV.out
      have HA := Lib.hid hA
      have HCM := Lib.hid hcm
      have HLL := Lib.hid hl
      have HON := Lib.hid hone
      clear hA hcm HV hl hone
      obtain ⟨i0, hi0, hz0, hz1, hz2⟩ := info_parts HI.out
      go_wp2_with (at_builtin; refine wpList_append_has _ rfl (.tmp 25) (.tmp 26) _ rfl wr.heap.size 5 i0 (.int .u8 0) 1 Tryd.underlying25 hi0 hz0 hz1 hz2 rfl (.slice (some ⟨wr.heap.size, 0, none⟩) 1 1) 1 _ rfl (World.ownsRow_lit (e := 5) (size := 1) wr _ 1 (Nat.le_refl _) (by decide) rfl) _ k _ xs rfl HLL.out (HA.out.alloc _) HON.out (by unfold maxLen; omega) (by omega) (by simp only [World.size_alloc]; omega) ?_; intro v2 w2 hown2 hgrow2 _; have HO := Lib.hid hown2; have HG := Lib.hid hgrow2; clear hown2 hgrow2)
      go_roundw
      case rel =>
        refine ⟨k + 1, wrap64 (y.tdiv 256), Value.int .u8 (bits .and .i64 y 255 % 256) :: xs, by omega, by go_num, rfl, ⟨?_, ?_⟩, ?_⟩
        · have h := HO.out
          rw [Nat.add_comm] at h
          exact Sl.of_own h
        · intro u hu
          rcases List.mem_cons.1 hu with rfl | hu
          · rfl
          · exact HON.out u hu
        · have hz := HBe.out.size
          rw [HB.out] at hz
          have hg : Below wr.heap.size wr w2 := ((Below.refl _ _).alloc (Nat.le_refl _) _).grown HG.out (by simp only [World.size_alloc]; omega) (fun q hq => by simp only [Value.ownBlock, Option.some.injEq] at hq; omega)
          exact HBe.out.trans (hg.mono hz)
      case measure => simp [intOf]; omega
    · have HBe2 := HBe.out
      rw [← HB.out] at HBe2
      have HB3 := Lib.hid HBe2
      clear HBe HBe2 HV
      go_wp2
      go_ret2
      exact ⟨rfl, HB3.out⟩
theorem rput_any (n size : Int) (w : World) (hw : (Lit.int .i64 n).wf = true) : Calls Tryd.prog 48 #[.int .i64 n, .int .i64 size] w fun e w' =>
    ∃ v, e = .returned (.tuple #[v, .int .i64 (putS n size).2]) ∧ IsB w' v (putS n size).1 ∧ Below w.heap.size w w' := by
  by_cases h : 1 ≤ size ∧ size ≤ 4
  · obtain ⟨s, rfl⟩ := Int.eq_ofNat_of_zero_le (show 0 ≤ size by omega)
    by_cases h0 : n < 0
    · rw [putS, if_neg (by omega)]
      refine (rput_neg n s w h0 h.1 h.2).mono ?_
      rintro e w' ⟨rfl, hb⟩
      exact ⟨_, rfl, IsB.nil_ _, hb⟩
    · obtain ⟨m, rfl⟩ := Int.eq_ofNat_of_zero_le (show 0 ≤ n by omega)
      refine (rput_pos m s w (by have := (bounds_i64 hw).2; show m < _; omega) h.1 h.2).mono ?_
      rintro e w' ⟨v, rfl, hv, hb⟩
      exact ⟨v, rfl, IsB.of_own hv, hb⟩
  · rw [putS, if_neg (fun h2 => h h2.1)]
    refine (rput_bad n size w h).mono ?_
    rintro e w' ⟨rfl, rfl⟩
    exact ⟨_, rfl, IsB.nil_ _, Below.refl _ _⟩
theorem rtake_any (v : Value) (l : List UInt8) (size : Int) (w : World) (hv : IsB w v l) : Calls Tryd.prog 58 #[v, .int .i64 size] w fun e w' =>
    e = .returned (.tuple #[.int .i64 (takeS l size).1, .int .i64 (takeS l size).2]) ∧ w = w' := by
  obtain ⟨A, n, c, rfl, hnc, hcm, hl, hA⟩ := hv
  by_cases h : 1 ≤ size ∧ size ≤ 4
  · obtain ⟨s, rfl⟩ := Int.eq_ofNat_of_zero_le (show 0 ≤ size by omega)
    obtain ⟨h1, h2⟩ := h
    have hn : n ≤ maxLen := by omega
    unfold maxLen at hn
    clear hcm hnc
    by_cases hs : (n : Int) < s
    · rw [takeS, if_pos ⟨h1, h2⟩, if_pos (by rw [hl]; exact hs)]
      clear hl hA
      go_enter Tryd.func58, Tryd.ntmps58
      go_wp2
      go_ret2
      exact ⟨rfl, rfl⟩
    · rw [takeS, if_pos ⟨h1, h2⟩, if_neg (by rw [hl]; exact hs), Int.toNat_natCast]
      have HL := Lib.hid hl
      clear hl
      obtain ⟨ad, rfl, hc⟩ := hA (by rw [vals_length, HL.out]; omega)
      have HC := Lib.hid hc
      clear hc hA
      go_enter Tryd.func58, Tryd.ntmps58
      go_wp2
      go_loop [6, 7] (fun x i => ∃ k : Nat, k ≤ s ∧ i = .int .i64 k ∧ x = .int .i64 (val (l.take k))) (fun _ i => s - (intOf i).toNat)
      case atStart => exact ⟨0, Nat.zero_le _, rfl, rfl⟩
      case round =>
        obtain ⟨k, hk, rfl, rfl⟩ := hrel
        by_cases hlt : k < s
        · have hkl : k < l.length := by rw [HL.out]; omega
          have hcell : w.cell? (ad.add k) = some (.int .u8 (l[k].toNat : Int)) := HC.out k _ (by rw [List.getElem?_eq_getElem (by rw [vals_length]; exact hkl), vals_at])
          have hv := val_take_lt l k
          have hv2 : val (l.take k) ≤ 16777215 := by
            have : val (l.take k) < 16777216 := Nat.lt_of_lt_of_le hv (Nat.le_trans (Nat.pow_le_pow_right (by omega) (show k ≤ 3 by omega)) (by decide))
            omega
          have hby : l[k].toNat ≤ 255 := by have := l[k].toNat_lt; omega
          clear hv
          go_wp2
          go_round
          case rel =>
            refine ⟨k + 1, by omega, by go_num, ?_⟩
            rw [val_take_succ l k hkl]
            go_num
          case measure => simp [intOf]; omega
        · have hks : k = s := by omega
          subst hks
          go_wp2
          go_ret2
          exact ⟨rfl, rfl⟩
  · rw [takeS, if_neg h]
    clear hl hA hcm hnc
    by_cases h1 : size < 1
    · clear h
      go_enter Tryd.func58, Tryd.ntmps58
      go_wp2
      go_ret2
      exact ⟨rfl, rfl⟩
    · have h2 : 4 < size := by omega
      clear h
      go_enter Tryd.func58, Tryd.ntmps58
      go_wp2
      go_ret2
      exact ⟨rfl, rfl⟩
end Go.Proofs.YtohggpaffmcfoaaDoor
end
section
namespace Go.Proofs.YtohggpaffmcfoaaDoor
open Go.RowKit
set_option linter.unusedVariables false
set_option maxRecDepth 100000
set_option linter.unusedSimpArgs false

theorem rgput_no (n : Int) (w : World) (h : ¬ (0 ≤ n ∧ n ≤ 268435455)) :
    Calls Tryd.prog 50 #[.int .i64 n] w fun e w' => e = .returned (.tuple #[.slice none 0 0, .int .i64 1]) ∧ w = w' := by
  by_cases h1 : n < 0
  · clear h
    go_enter Tryd.func50, Tryd.ntmps50
    go_wp2
    go_ret2
    exact ⟨rfl, rfl⟩
  · have h2 : 268435455 < n := by omega
    clear h
    go_enter Tryd.func50, Tryd.ntmps50
    go_wp2
    go_ret2
    exact ⟨rfl, rfl⟩
theorem one_byte (x : Nat) (hx : x < 256) : [Value.int .u8 (x : Int)] = vals [UInt8.ofNat x] := by
  simp only [vals, List.map_cons, List.map_nil, toNat_ofNat_lt hx]
theorem rgput_own (N : Nat) (w : World) (hN : (N : Int) ≤ 268435455) :
    Calls Tryd.prog 50 #[.int .i64 N] w fun e w' =>
      ∃ v, e = .returned (.tuple #[v, .int .i64 0]) ∧ w'.ownsRow w.heap.size 5 1 v (gsize N) (vals (grp N)) ∧ Below w.heap.size w w' := by
  have hn0 : 0 ≤ (N : Int) := by omega
  obtain ⟨B, hB⟩ : ∃ B, w.heap.size = B := ⟨_, rfl⟩
  have HB := Lib.hid hB
  clear hB
  have HI := Lib.hid byte_info
  go_enter Tryd.func50, Tryd.ntmps50
  go_wp2
  go_loopw [0, 4] (fun x v wr => ∃ k y : Nat, k ≤ 3 ∧ x = .int .i64 y ∧ y ≤ 2097151 ∧ Hid (y = N / 128 ^ (k + 1)) ∧ Hid (k = 0 ∨ N / 128 ^ k ≠ 0) ∧ Hid (wr.ownsRow B 5 1 v (k + 1) (vals (hi k (N / 128) ++ [UInt8.ofNat (N % 128)]))) ∧ Hid (Below B w wr)) (fun x _ _ => (intOf x).toNat)
  case atStart =>
    refine ⟨0, N / 128, by omega, by simp, by omega, by simp [Hid], .inl rfl, ?_, ?_⟩
    · have h := World.ownsRow_lit (base := B) (e := 5) (size := 1) w #[Value.int .u8 ((N % 128 : Nat) : Int)] 1 (by rw [HB.out]; exact Nat.le_refl _) (by decide) rfl
      rw [show (#[Value.int .u8 ((N % 128 : Nat) : Int)]).toList = vals [UInt8.ofNat (N % 128)] from one_byte _ (by omega), show ((N % 128 : Nat) : Int) = (N : Int) % 128 from by simp] at h
      exact h
    · have := (Below.refl w.heap.size w).alloc (Nat.le_refl _) (.cells #[.int .u8 ((N % 128 : Nat) : Int)] 5)
      rw [HB.out] at this
      exact this
  case round =>
    obtain ⟨k, y, hk, rfl, hy, HY, HK, HV, HBe⟩ := hrel
    by_cases hlt : 0 < y
    · have hk2 := size_goes N k (by omega) hk (by rw [← HY.out]; omega)
      obtain ⟨A, m, c, rfl, hnc, hcm, hl, hA⟩ := IsB.of_own HV.out
      rw [List.length_append, hi_length, List.length_singleton] at hl
      subst hl
      have HA := Lib.hid hA
      have HCM := Lib.hid hcm
      clear hA hcm HV
      obtain ⟨i0, hi0, hz0, hz1, hz2⟩ := info_parts HI.out
      go_wp2_with (at_builtin; refine wpList_append_has _ rfl (.tmp 23) (.tmp 24) _ rfl wr.heap.size 5 i0 (.int .u8 0) 1 Tryd.underlying25 hi0 hz0 hz1 hz2 rfl (.slice (some ⟨wr.heap.size, 0, none⟩) 1 1) 1 _ rfl (World.ownsRow_lit (e := 5) (size := 1) wr _ 1 (Nat.le_refl _) (by decide) rfl) _ (k + 1) _ (vals (hi k (N / 128) ++ [UInt8.ofNat (N % 128)])) rfl (by rw [vals_length, List.length_append, hi_length]; rfl) (HA.out.alloc _) (vals_one _) (by unfold maxLen; omega) (by omega) (by simp only [World.size_alloc]; omega) ?_; intro v2 w2 hown2 hgrow2 _; have HO := Lib.hid hown2; have HG := Lib.hid hgrow2; clear hown2 hgrow2)
      go_roundw
      case rel =>
        refine ⟨k + 1, y / 128, hk2, by simp, by omega, ?_, .inr (by rw [← HY.out]; omega), ?_, ?_⟩
        · show _ = _
          rw [HY.out, Nat.div_div_eq_div_mul, Nat.pow_succ 128 (k + 1)]
        · have h := HO.out
          rw [show (128 + (y : Int) % 128) = ((128 + y % 128 : Nat) : Int) from by omega, show (#[Value.int .u8 ((128 + y % 128 : Nat) : Int)]).toList = vals [UInt8.ofNat (128 + y % 128)] from one_byte _ (by omega), ← vals_append] at h
          rw [hi_head, Nat.div_div_eq_div_mul, Nat.mul_comm 128, ← Nat.pow_succ, ← HY.out]
          rw [Nat.add_comm 1 (k + 1)] at h
          exact own_base h (by have hz := HBe.out.size; rw [HB.out] at hz; exact hz)
        · have hz := HBe.out.size
          rw [HB.out] at hz
          have hg : Below wr.heap.size wr w2 := ((Below.refl _ _).alloc (Nat.le_refl _) _).grown HG.out (by simp only [World.size_alloc]; omega) (fun q hq => by simp only [Value.ownBlock, Option.some.injEq] at hq; omega)
          exact HBe.out.trans (hg.mono hz)
      case measure => simp [intOf]; omega
    · have he := size_end N k (by omega) hk (by rw [← HY.out]; omega) HK.out
      have HV2 : Hid (wr.ownsRow w.heap.size 5 1 u4 (gsize N) (vals (grp N))) := by
        show wr.ownsRow _ _ _ _ _ _
        rw [HB.out, grp, he]
        exact HV.out
      have HB2 := HBe.out
      rw [← HB.out] at HB2
      have HB3 := Lib.hid HB2
      clear HV HBe HB2 he HK HY
      go_wp2
      go_ret2
      exact ⟨_, rfl, HV2.out, HB3.out⟩
theorem rgput_core (N : Nat) (w : World) (hN : (N : Int) ≤ 268435455) :
    Calls Tryd.prog 50 #[.int .i64 N] w fun e w' =>
      ∃ v, e = .returned (.tuple #[v, .int .i64 0]) ∧ IsB w' v (grp N) ∧ Below w.heap.size w w' :=
  (rgput_own N w hN).mono fun e w' ⟨v, h1, h2, h3⟩ => ⟨v, h1, IsB.of_own h2, h3⟩
theorem rgput_any (n : Int) (w : World) : Calls Tryd.prog 50 #[.int .i64 n] w fun e w' =>
    ∃ v, e = .returned (.tuple #[v, .int .i64 (putG n).2]) ∧ IsB w' v (putG n).1 ∧ Below w.heap.size w w' := by
  by_cases h : 0 ≤ n ∧ n ≤ 268435455
  · rw [putG, if_pos h]
    obtain ⟨N, rfl⟩ := Int.eq_ofNat_of_zero_le h.1
    rw [Int.toNat_natCast]
    exact rgput_core N w h.2
  · rw [putG, if_neg h]
    refine (rgput_no n w h).mono ?_
    rintro e w' ⟨rfl, rfl⟩
    exact ⟨_, rfl, IsB.nil_ _, Below.refl _ _⟩
set_option maxRecDepth 100000 in
set_option maxHeartbeats 1000000 in
theorem rgtake_core (A : Option Addr) (n c : Nat) (l : List UInt8) (w : World) (hl : Hid (l.length = n)) (hnc : n ≤ c) (hcm : c ≤ maxLen) (hA : Hid (Has w A (vals l))) :
    Calls Tryd.prog 32 #[.slice A n c] w fun e w' => e = .returned (.tuple #[.int .i64 (takeG l).1, .int .i64 (takeG l).2.1, .int .i64 (takeG l).2.2]) ∧ w = w' := by
  unfold maxLen at hcm
  obtain ⟨R, hR⟩ : ∃ R, takeG l = R := ⟨_, rfl⟩
  rw [hR]
  have HR := Lib.hid hR
  clear hR
  by_cases hn : 0 < n
  · have hn0 : 0 < l.length := by rw [hl.out]; exact hn
    obtain ⟨ad, rfl, hc0⟩ := hA.out.at_ (k := 0) (by rw [vals_length]; exact hn0)
    rw [vals_at l 0 hn0] at hc0
    rw [addr_zero] at hc0
    obtain ⟨b, hb'⟩ : ∃ b, l[0] = b := ⟨_, rfl⟩
    rw [hb'] at hc0
    have HB0 := Lib.hid hb'
    clear hb'
    by_cases hb : b.toNat = 128
    · have HE : Hid (R = (0, 0, 3)) := by
        show _ = _
        rw [← HR.out, takeG, ← List.drop_zero (l := l), List.drop_eq_getElem_cons hn0, HB0.out, gtkR_form _ _ _ _ (by omega) (.inl ⟨rfl, hb⟩)]
      have t1 : ((b.toNat : Int) == 128) = true := beq_iff_eq.2 (by omega)
      clear hb
      go_enter Tryd.func32, Tryd.ntmps32
      go_wp2
      go_ret3
      exact ⟨by rw [HE.out]; rfl, rfl⟩
    · have t1 : ((b.toNat : Int) == 128) = false := by rw [beq_eq_false_iff_ne]; omega
      have HNB : Hid (b.toNat ≠ 128) := hb
      clear hb
      go_enter Tryd.func32, Tryd.ntmps32
      go_wp2
      clear hc0 t1
      go_loop [5, 6] (fun x i => ∃ k y : Nat, k ≤ 4 ∧ k ≤ n ∧ i = .int .i64 k ∧ x = .int .i64 y ∧ y ≤ 268435455 ∧ Hid (y < 128 ^ k) ∧ Hid (k ≤ 3 → R = gtkR k y (l.drop k)) ∧ Hid (k = 4 → R = (0, 0, 3))) (fun _ i => 4 - (intOf i).toNat)
      case atStart => exact ⟨0, 0, by omega, by omega, rfl, rfl, by omega, by simp [Hid], by intro _; rw [← HR.out]; rfl, by intro h; omega⟩
      case round =>
        obtain ⟨k, y, hk, hkn, rfl, rfl, hy, HY, HT, HF⟩ := hrel
        by_cases hlt : k < n
        · by_cases hk4 : k < 4
          · have hkl : k < l.length := by rw [hl.out]; exact hlt
            obtain ⟨ad', he, hcell⟩ := hA.out.at_ (k := k) (by rw [vals_length]; exact hkl)
            injection he with he
            subst he
            rw [vals_at l k hkl] at hcell
            obtain ⟨d, hd⟩ : ∃ d, l[k] = d := ⟨_, rfl⟩
            rw [hd] at hcell
            have HD : Hid (R = gtkR k y (d :: l.drop (k + 1))) := by
              show _ = _
              rw [HT.out (by omega), List.drop_eq_getElem_cons hkl, hd]
            have HK0 : Hid (k = 0 → d.toNat ≠ 128) := by
              intro h
              subst h
              rw [← hd, HB0.out]
              exact HNB.out
            clear hd HT
            have hd2 : d.toNat ≤ 255 := by have := d.toNat_lt; omega
            have hyy : y ≤ 2097151 := by
              have h5 : 128 ^ k ≤ 128 ^ 3 := Nat.pow_le_pow_right (by omega) (by omega)
              have h6 : 128 ^ 3 = 2097152 := rfl
              have := HY.out
              omega
            by_cases hb : d.toNat < 128
            · have HE : Hid (R = (((y * 128 + d.toNat : Nat) : Int), ((k + 1 : Nat) : Int), 0)) := by
                show _ = _
                rw [HD.out, gtkR_last _ _ _ _ hb]
              clear HD
              go_wp2
              go_ret3
              refine ⟨?_, rfl⟩
              show Ending.returned (.tuple #[.int .i64 ((y : Int) * 128 + (d.toNat : Int) % 128), .int .i64 ((k : Int) + 1), .int .i64 0]) = _
              rw [HE.out, show ((d.toNat : Int) % 128) = d.toNat from by omega]
              rfl
            · have HD2 : Hid ((k + 1 ≤ 3 → R = gtkR (k + 1) (y * 128 + (d.toNat - 128)) (l.drop (k + 1))) ∧ (k + 1 = 4 → R = (0, 0, 3))) := by
                refine ⟨fun h => ?_, fun h => ?_⟩
                · rw [HD.out, gtkR_more _ _ _ _ (by omega) HK0.out (by omega)]
                · rw [HD.out, gtkR_form _ _ _ _ (by omega) (.inr (by omega))]
              clear HD
              obtain ⟨z, hz⟩ : ∃ z, d.toNat = z + 128 := ⟨d.toNat - 128, by omega⟩
              rw [hz] at hcell HD2 hd2
              rw [Nat.add_sub_cancel] at HD2
              go_wp2
              go_round
              case rel =>
                refine ⟨k + 1, y * 128 + z, by omega, by omega, by go_num, by rw [show ((z : Int) % 128) = z from by omega]; go_num, by omega, ?_, HD2.out.1, HD2.out.2⟩
                show _ < _
                rw [Nat.pow_succ]
                have := HY.out
                omega
              case measure => simp [intOf]; omega
          · have HE : Hid (R = (0, 0, 3)) := HF.out (by omega)
            have hn4 : 4 ≤ (n : Int) := by omega
            clear HT HF
            go_wp2
            go_ret3
            exact ⟨by rw [HE.out]; rfl, rfl⟩
        · by_cases hk4 : k < 4
          · have HE : Hid (R = (0, 0, 2)) := by
              show _ = _
              rw [HT.out (by omega), List.drop_eq_nil_of_le (by rw [hl.out]; omega)]
              rfl
            have hn4 : ¬ 4 ≤ (n : Int) := by omega
            clear HT HF
            go_wp2
            go_ret3
            exact ⟨by rw [HE.out]; rfl, rfl⟩
          · have HE : Hid (R = (0, 0, 3)) := HF.out (by omega)
            have hn4 : 4 ≤ (n : Int) := by omega
            clear HT HF
            go_wp2
            go_ret3
            exact ⟨by rw [HE.out]; rfl, rfl⟩
  · have HE : Hid (R = (0, 0, 2)) := by
      show _ = _
      have hl0 : l = [] := List.eq_nil_of_length_eq_zero (by rw [hl.out]; omega)
      rw [← HR.out, takeG, hl0]
      rfl
    have hn4 : ¬ 4 ≤ (n : Int) := by omega
    go_enter Tryd.func32, Tryd.ntmps32
    go_wp2
    go_loop [5, 6] (fun x i => x = .int .i64 0 ∧ i = .int .i64 0) (fun _ _ => 0)
    case atStart => exact ⟨rfl, rfl⟩
    case round =>
      obtain ⟨rfl, rfl⟩ := hrel
      go_wp2
      go_ret3
      exact ⟨by rw [HE.out]; rfl, rfl⟩
theorem rgtake_any (v : Value) (l : List UInt8) (w : World) (hv : IsB w v l) : Calls Tryd.prog 32 #[v] w fun e w' => e = .returned (.tuple #[.int .i64 (takeG l).1, .int .i64 (takeG l).2.1, .int .i64 (takeG l).2.2]) ∧ w = w' := by
  obtain ⟨A, n, c, rfl, hnc, hcm, hl, hA⟩ := hv
  exact rgtake_core A n c l w hl hnc hcm hA
end Go.Proofs.YtohggpaffmcfoaaDoor
end
section
namespace Go.Proofs.YtohggpaffmcfoaaDoor
open Go.RowKit
set_option linter.unusedVariables false
set_option maxRecDepth 100000
set_option linter.unusedSimpArgs false

theorem u32_and1 (x : Nat) (h : x ≤ 4294967295) : bits .and .u32 (x : Int) 1 = ((x % 2 : Nat) : Int) := by
  have := u32_and_nat x 1 (by omega) (by omega)
  rw [show (1 : Nat) = 2 ^ 1 - 1 from rfl, Nat.and_two_pow_sub_one_eq_mod] at this
  exact this
theorem u32_poly (x : Nat) (h : (x : Int) ≤ 4294967295) : bits .xor .u32 ((x : Int) / 2) 2197175160 = (((x / 2) ^^^ 2197175160 : Nat) : Int) := by
  have := u32_xor_nat (x / 2) 2197175160 (by omega) (by omega)
  rw [← this]
  rfl
theorem rcstep_any (s c : Nat) (w : World) (hs : (s : Int) ≤ 4294967295) (hc : (c : Int) ≤ 255) :
    Calls Tryd.prog 86 #[.int .u32 s, .int .u8 c] w fun e w' => e = .returned (.int .u32 ((stepN s c : Nat) : Int)) ∧ w = w' := by
  have e1 := u32_xor_nat s c (by omega) (by omega)
  have l1 : s ^^^ c < 4294967296 := Nat.xor_lt_two_pow (n := 32) (by omega) (by omega)
  have HS : Hid (stepN s c = hfs 8 (s ^^^ c)) := rfl
  generalize s ^^^ c = x at *
  have hx : (x : Int) ≤ 4294967295 := by omega
  clear l1
  go_enter Tryd.func86, Tryd.ntmps86
  go_wp2
  go_loop [0, 5] (fun v i => ∃ k y : Nat, k ≤ 8 ∧ i = .int .i64 k ∧ v = .int .u32 y ∧ (y : Int) ≤ 4294967295 ∧ Hid (y = hfs k x)) (fun _ i => 8 - (intOf i).toNat)
  case atStart => exact ⟨0, x, by omega, rfl, rfl, hx, rfl⟩
  case round =>
    obtain ⟨k, y, hk, rfl, rfl, hy, HY⟩ := hrel
    clear e1
    by_cases hlt : k < 8
    · have ea := u32_and1 y (by omega)
      have ep := u32_poly y hy
      have hl := hf_lt y (by omega)
      by_cases ho : y % 2 = 1
      · have hz : hf y = (y / 2) ^^^ 2197175160 := by unfold hf; rw [if_pos ho]
        rw [← hz] at ep
        have HN : Hid (hf y = hfs (k + 1) x) := by show _ = _; rw [hfs, ← HY.out]
        clear hz
        generalize hf y = z at *
        have hz2 : (z : Int) ≤ 4294967295 := by omega
        have t1 : (((y % 2 : Nat) : Int) == 1) = true := beq_iff_eq.2 (by omega)
        have t2 : (((y : Int) % 2) == 1) = true := beq_iff_eq.2 (by omega)
        go_wp2
        go_round
        case rel => exact ⟨k + 1, z, by omega, by go_num, rfl, hz2, HN⟩
        case measure => simp [intOf]; omega
      · have HN : Hid (y / 2 = hfs (k + 1) x) := by show _ = _; rw [hfs, ← HY.out]; unfold hf; rw [if_neg ho]
        have t1 : (((y % 2 : Nat) : Int) == 1) = false := beq_eq_false_iff_ne.2 (by omega)
        have t2 : (((y : Int) % 2) == 1) = false := beq_eq_false_iff_ne.2 (by omega)
        go_wp2
        go_round
        case rel => exact ⟨k + 1, y / 2, by omega, by go_num, rfl, by omega, HN⟩
        case measure => simp [intOf]; omega
    · have hks : k = 8 := by omega
      subst hks
      go_wp2
      go_ret
      exact ⟨by rw [HS.out, ← HY.out]; rfl, rfl⟩
theorem u32_ones (s : Nat) (h : (s : Int) ≤ 4294967295) : bits .xor .u32 (s : Int) 4294967295 = ((flipN s : Nat) : Int) := by
  have := u32_xor_nat s 4294967295 (by omega) (by omega)
  rw [xor_ones s (by omega)] at this
  exact this
theorem rmore_core (s : Nat) (A : Option Addr) (n c : Nat) (l : List UInt8) (w : World) (hs : (s : Int) ≤ 4294967295) (hl : Hid (l.length = n)) (hnc : n ≤ c) (hcm : c ≤ maxLen) (hA : Hid (Has w A (vals l))) :
    Calls Tryd.prog 75 #[.int .u32 s, .slice A n c] w fun e w' => e = .returned (.int .u32 ((moreN s l : Nat) : Int)) ∧ w = w' := by
  unfold maxLen at hcm
  obtain ⟨R, hR⟩ : ∃ R, moreN s l = R := ⟨_, rfl⟩
  rw [hR]
  have HR := Lib.hid hR
  clear hR
  have e1 := u32_ones s hs
  go_enter Tryd.func75, Tryd.ntmps75
  go_wp2
  go_loop [0, 5] (fun x i => ∃ k y : Nat, k ≤ n ∧ i = .int .i64 k ∧ x = .int .u32 y ∧ (y : Int) ≤ 4294967295 ∧ Hid (y = runN (flipN s) (l.take k))) (fun _ i => n - (intOf i).toNat)
  case atStart => exact ⟨0, flipN s, by omega, rfl, rfl, by have := flipN_le s; omega, rfl⟩
  case round =>
    obtain ⟨k, y, hk, rfl, rfl, hy, HY⟩ := hrel
    by_cases hlt : k < n
    · have hkl : k < l.length := by rw [hl.out]; exact hlt
      obtain ⟨ad, rfl, hcell⟩ := hA.out.at_ (k := k) (by rw [vals_length]; exact hkl)
      rw [vals_at l k hkl] at hcell
      have HD : Hid (stepN y l[k].toNat = runN (flipN s) (l.take (k + 1))) := by
        show _ = _
        rw [HY.out, runN_take _ _ _ hkl]
      have hb2 : (l[k].toNat : Int) ≤ 255 := by have := l[k].toNat_lt; omega
      have hz : (stepN y l[k].toNat : Int) ≤ 4294967295 := by have := stepN_lt y l[k].toNat (by omega) l[k].toNat_lt; omega
      generalize l[k].toNat = b at *
      clear e1
      go_wp2_with fail
      refine (rcstep_any y b _ hy hb2).mono ?_
      rintro e w' ⟨rfl, rfl⟩
      generalize stepN y b = z at *
      go_wp2_with fail
      go_round
      case rel => exact ⟨k + 1, z, by omega, by go_num, rfl, hz, HD⟩
      case measure => simp [intOf]; omega
    · have hks : k = n := by omega
      subst hks
      have e2 := u32_ones y hy
      have HE : Hid (R = flipN y) := by
        show _ = _
        rw [← HR.out, HY.out, ← hl.out, List.take_length]
        rfl
      clear e1
      go_wp2
      go_ret
      exact ⟨by rw [HE.out]; rfl, rfl⟩
theorem rmore_any (s : Nat) (v : Value) (l : List UInt8) (w : World) (hs : (s : Int) ≤ 4294967295) (hv : IsB w v l) :
    Calls Tryd.prog 75 #[.int .u32 s, v] w fun e w' => e = .returned (.int .u32 ((moreN s l : Nat) : Int)) ∧ w = w' := by
  obtain ⟨A, n, c, rfl, hnc, hcm, hl, hA⟩ := hv
  exact rmore_core s A n c l w hs hl hnc hcm hA
theorem rsum_any (v : Value) (l : List UInt8) (w : World) (hv : IsB w v l) :
    Calls Tryd.prog 49 #[v] w fun e w' => e = .returned (.int .u32 ((sumN l : Nat) : Int)) ∧ w = w' := by
  obtain ⟨A, n, c, rfl, hnc, hcm, hl, hA⟩ := hv
  have HX := Lib.hid hcm
  have HL := Lib.hid hl
  have HA := Lib.hid hA
  clear hcm hl hA
  go_enter Tryd.func49, Tryd.ntmps49
  go_wp2_with fail
  refine (rmore_core 0 A n c l _ (by omega) HL.out hnc HX.out HA.out).mono ?_
  rintro e w' ⟨rfl, rfl⟩
  rw [show moreN 0 l = sumN l from rfl]
  go_wp2_with fail
  go_ret
  exact ⟨rfl, rfl⟩
end Go.Proofs.YtohggpaffmcfoaaDoor
end
