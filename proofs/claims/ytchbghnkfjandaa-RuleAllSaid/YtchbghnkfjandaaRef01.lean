/- Contracts of package theseusref01 (the document's answers for layer 1). -/
import Derived.Test.YtchbghnkfjandaaNum
import Derived.OpenShut
namespace Go.Proofs.Ytchbghnkfjandaa
open Go.RowKit
set_option linter.unusedVariables false
set_option linter.unusedSimpArgs false
attribute [local go_sem ↓] sliced_cut
attribute [local go_sem] cutA_zero

theorem rput_bad (n size : Int) (w : World) (h : ¬ (1 ≤ size ∧ size ≤ 4)) :
    Calls Try.prog 24 #[.int .i64 n, .int .i64 size] w fun e w' => e = .returned (.tuple #[.slice none 0 0, .int .i64 1]) ∧ w = w' := by
  by_cases h1 : size < 1
  · clear h
    go_enter Try.func24, Try.ntmps24
    go_wp2
    go_ret2
    exact ⟨rfl, rfl⟩
  · have h2 : 4 < size := by omega
    clear h
    go_enter Try.func24, Try.ntmps24
    go_wp2
    go_ret2
    exact ⟨rfl, rfl⟩
theorem low_byte (y : Nat) (hy : y < 9223372036854775808) : bits .and .i64 (y : Int) 255 = ((UInt8.ofNat y).toNat : Int) := by
  rw [toNat_ofNat_mod]
  have := i64_and_nat y 255 hy (by omega)
  rw [show (255 : Nat) = 2 ^ 8 - 1 from rfl, Nat.and_two_pow_sub_one_eq_mod] at this
  exact this
theorem rput_pos (n s : Nat) (w : World) (hn : Hid (n < 9223372036854775808)) (h1 : 1 ≤ (s : Int)) (h2 : (s : Int) ≤ 4) :
    Calls Try.prog 24 #[.int .i64 n, .int .i64 s] w fun e w' =>
      ∃ v, e = .returned (.tuple #[v, .int .i64 (putS n s).2]) ∧ w'.ownsRow w.heap.size 5 1 v (putS n s).1.length (vals (putS n s).1) ∧ Below w.heap.size w w' := by
  have hn0 : 0 ≤ (n : Int) := by omega
  obtain ⟨B, hB⟩ : ∃ B, w.heap.size = B := ⟨_, rfl⟩
  have HB := Lib.hid hB
  clear hB
  have HI := Lib.hid byte_info
  go_enter Try.func24, Try.ntmps24
  go_wp2
  go_loopw [6, 7, 8] (fun v x i wr => ∃ k y : Nat, k ≤ s ∧ i = .int .i64 k ∧ x = .int .i64 y ∧ Hid (y = n / 256 ^ k) ∧ Hid (wr.ownsRow B 5 1 v k (vals (be k n))) ∧ Hid (Below B w wr)) (fun _ _ i _ => s - (intOf i).toNat)
  case atStart =>
    refine ⟨0, n, Nat.zero_le _, rfl, rfl, by simp [Hid], ?_, ?_⟩
    · rw [← HB.out]
      exact World.ownsRow_lit (e := 5) (size := 1) w #[] 0 (Nat.le_refl _) (by decide) rfl
    · have := (Below.refl w.heap.size w).alloc (Nat.le_refl _) (.cells #[] 5)
      rw [HB.out] at this
      exact this
  case round =>
    obtain ⟨k, y, hk, rfl, rfl, HY, HV, HBe⟩ := hrel
    by_cases hlt : k < s
    · have hand := low_byte y (by rw [HY.out]; exact Nat.lt_of_le_of_lt (Nat.div_le_self _ _) hn.out)
      have hyn : y < 9223372036854775808 := by rw [HY.out]; exact Nat.lt_of_le_of_lt (Nat.div_le_self _ _) hn.out
      have hdiv : wrap64 ((y : Int) / 256) = ((y / 256 : Nat) : Int) := IntWalk.wrap64_in _ (by omega)
      clear hyn
      have HOL := Lib.hid (World.ownsRow_lit (e := 5) (size := 1) wr (vals [UInt8.ofNat y]).toArray 1 (Nat.le_refl _) (by decide) rfl)
      have hby : (UInt8.ofNat y).toNat ≤ 255 := by have := (UInt8.ofNat y).toNat_lt; omega
      obtain ⟨A, m, c, rfl, hnc, hcm, hl, hA⟩ := IsB.of_own HV.out
      rw [be_length] at hl
      subst hl
      have HA := Lib.hid hA
      have HCM := Lib.hid hcm
      clear hA hcm HV
      obtain ⟨i0, hi0, hz0, hz1, hz2⟩ := info_parts HI.out
      go_wp2_with (at_builtin; refine wpList_append_has _ rfl (.tmp 25) (.tmp 26) _ rfl wr.heap.size 5 i0 (.int .u8 0) 1 Try.underlying26 hi0 hz0 hz1 hz2 rfl _ 1 (vals [UInt8.ofNat y]) rfl HOL.out _ k _ (vals (be k n)) rfl (by rw [vals_length, be_length]) (HA.out.alloc _) (vals_one _) (by unfold maxLen; omega) (by omega) (by simp only [World.size_alloc]; omega) ?_; intro v2 w2 hown2 hgrow2 _; have HO := Lib.hid hown2; have HG := Lib.hid hgrow2; clear hown2 hgrow2)
      go_roundw
      case rel =>
        refine ⟨k + 1, y / 256, by omega, by go_num, by rw [hdiv], ?_, ?_, ?_⟩
        · show _ = _
          rw [HY.out, Nat.div_div_eq_div_mul, Nat.pow_succ]
        · have h := HO.out
          rw [← vals_append] at h
          rw [be_head, ← HY.out]
          rw [Nat.add_comm 1 k] at h
          exact own_base h (by have := HBe.out.size; rw [HB.out] at this; exact this)
        · have hz := HBe.out.size
          rw [HB.out] at hz
          have hg : Below wr.heap.size wr w2 := ((Below.refl _ _).alloc (Nat.le_refl _) _).grown HG.out (by simp only [World.size_alloc]; omega) (fun q hq => (HOL.out.lt q hq).1)
          exact HBe.out.trans (hg.mono hz)
      case measure => simp [intOf]; omega
    · have hks : k = s := by omega
      subst hks
      have hput : putS n k = if n < 256 ^ k then (be k n, 0) else ([], 1) := by
        unfold putS
        by_cases h : n < 256 ^ k
        · rw [if_pos h, if_pos ⟨⟨h1, h2⟩, hn0, by simpa using h⟩]
          simp
        · rw [if_neg h, if_neg (fun h3 => h (by simpa using h3.2.2))]
      have hp : 0 < 256 ^ k := Nat.pow_pos (by omega)
      by_cases h : n < 256 ^ k
      · have hy0 : y = 0 := by rw [HY.out]; exact Nat.div_eq_of_lt h
        rw [if_pos h] at hput
        have HF : Hid (Ending.returned (.tuple #[u6, .int .i64 0]) = .returned (.tuple #[u6, .int .i64 (putS n k).2])) := by
          show _ = _
          rw [hput]
        have HV3 : Hid (wr.ownsRow w.heap.size 5 1 u6 (putS n k).1.length (vals (putS n k).1)) := by
          rw [hput, HB.out]
          show wr.ownsRow B _ 1 u6 (be k n).length _
          rw [be_length]
          exact HV.out
        have HBe2 := HBe.out
        rw [← HB.out] at HBe2
        have HB3 := Lib.hid HBe2
        subst hy0
        clear hput h HY HV HBe HBe2
        go_wp2
        go_ret2
        exact ⟨_, HF.out, HV3.out, HB3.out⟩
      · have hy0 : y ≠ 0 := by
          intro h0
          have h3 := HY.out
          rw [h0] at h3
          have := (Nat.div_eq_zero_iff.1 h3.symm)
          omega
        rw [if_neg h] at hput
        have HF : Hid (Ending.returned (.tuple #[.slice none 0 0, .int .i64 1]) = .returned (.tuple #[.slice none 0 0, .int .i64 (putS n k).2])) := by
          show _ = _
          rw [hput]
        have HV3 : Hid (wr.ownsRow w.heap.size 5 1 (.slice none 0 0) (putS n k).1.length (vals (putS n k).1)) := by
          rw [hput]
          exact World.ownsRow_nil _ _ _ _
        have HBe2 := HBe.out
        rw [← HB.out] at HBe2
        have HB3 := Lib.hid HBe2
        have hy1 : ((y : Int) != 0) = true := by rw [bne_iff_ne]; omega
        clear hput h HY HV HBe HBe2
        go_wp2
        go_ret2
        exact ⟨_, HF.out, HV3.out, HB3.out⟩
theorem rput_neg (n : Int) (s : Nat) (w : World) (hn : n < 0) (h1 : 1 ≤ (s : Int)) (h2 : (s : Int) ≤ 4) :
    Calls Try.prog 24 #[.int .i64 n, .int .i64 s] w fun e w' =>
      e = .returned (.tuple #[.slice none 0 0, .int .i64 1]) ∧ Below w.heap.size w w' := by
  obtain ⟨B, hB⟩ : ∃ B, w.heap.size = B := ⟨_, rfl⟩
  have HB := Lib.hid hB
  clear hB
  have HI := Lib.hid byte_info
  go_enter Try.func24, Try.ntmps24
  go_wp2
  go_loopw [6, 7, 8] (fun v x i wr => ∃ (k : Nat) (y : Int) (xs : List Value), k ≤ s ∧ i = .int .i64 k ∧ x = .int .i64 y ∧ Hid (Sl wr v k xs ∧ ∀ u ∈ xs, u.oneCell' = true) ∧ Hid (Below B w wr)) (fun _ _ i _ => s - (intOf i).toNat)
  case atStart =>
    refine ⟨0, n, [], Nat.zero_le _, rfl, rfl, ⟨?_, by simp⟩, ?_⟩
    · exact Sl.of_own (World.ownsRow_lit (e := 5) (size := 1) w #[] 0 (Nat.le_refl _) (by decide) rfl)
    · have := (Below.refl w.heap.size w).alloc (Nat.le_refl _) (.cells #[] 5)
      rw [HB.out] at this
      exact this
  case round =>
    obtain ⟨k, y, xs, hk, rfl, rfl, HV, HBe⟩ := hrel
    by_cases hlt : k < s
    · obtain ⟨⟨A, c, rfl, hnc, hcm, hl, hA⟩, hone⟩ := HV.out
      have HA := Lib.hid hA
      have HCM := Lib.hid hcm
      have HLL := Lib.hid hl
      have HON := Lib.hid hone
      clear hA hcm HV hl hone
      obtain ⟨i0, hi0, hz0, hz1, hz2⟩ := info_parts HI.out
      go_wp2_with (at_builtin; refine wpList_append_has _ rfl (.tmp 25) (.tmp 26) _ rfl wr.heap.size 5 i0 (.int .u8 0) 1 Try.underlying26 hi0 hz0 hz1 hz2 rfl (.slice (some ⟨wr.heap.size, 0, none⟩) 1 1) 1 _ rfl (World.ownsRow_lit (e := 5) (size := 1) wr _ 1 (Nat.le_refl _) (by decide) rfl) _ k _ xs rfl HLL.out (HA.out.alloc _) HON.out (by unfold maxLen; omega) (by omega) (by simp only [World.size_alloc]; omega) ?_; intro v2 w2 hown2 hgrow2 _; have HO := Lib.hid hown2; have HG := Lib.hid hgrow2; clear hown2 hgrow2)
      go_roundw
      case rel =>
        refine ⟨k + 1, wrap64 (y.tdiv 256), Value.int .u8 (bits .and .i64 y 255 % 256) :: xs, by omega, by go_num, rfl, ⟨?_, ?_⟩, ?_⟩
        · have h := HO.out
          rw [Nat.add_comm] at h
          exact Sl.of_own h
        · intro u hu
          rcases List.mem_cons.1 hu with rfl | hu
          · rfl
          · exact HON.out u hu
        · have hz := HBe.out.size
          rw [HB.out] at hz
          have hg : Below wr.heap.size wr w2 := ((Below.refl _ _).alloc (Nat.le_refl _) _).grown HG.out (by simp only [World.size_alloc]; omega) (fun q hq => by simp only [Value.ownBlock, Option.some.injEq] at hq; omega)
          exact HBe.out.trans (hg.mono hz)
      case measure => simp [intOf]; omega
    · have HBe2 := HBe.out
      rw [← HB.out] at HBe2
      have HB3 := Lib.hid HBe2
      clear HBe HBe2 HV
      go_wp2
      go_ret2
      exact ⟨rfl, HB3.out⟩
theorem rput_any (n size : Int) (w : World) (hw : (Lit.int .i64 n).wf = true) : Calls Try.prog 24 #[.int .i64 n, .int .i64 size] w fun e w' =>
    ∃ v, e = .returned (.tuple #[v, .int .i64 (putS n size).2]) ∧ IsB w' v (putS n size).1 ∧ Below w.heap.size w w' := by
  by_cases h : 1 ≤ size ∧ size ≤ 4
  · obtain ⟨s, rfl⟩ := Int.eq_ofNat_of_zero_le (show 0 ≤ size by omega)
    by_cases h0 : n < 0
    · rw [putS, if_neg (by omega)]
      refine (rput_neg n s w h0 h.1 h.2).mono ?_
      rintro e w' ⟨rfl, hb⟩
      exact ⟨_, rfl, IsB.nil_ _, hb⟩
    · obtain ⟨m, rfl⟩ := Int.eq_ofNat_of_zero_le (show 0 ≤ n by omega)
      refine (rput_pos m s w (by have := (bounds_i64 hw).2; show m < _; omega) h.1 h.2).mono ?_
      rintro e w' ⟨v, rfl, hv, hb⟩
      exact ⟨v, rfl, IsB.of_own hv, hb⟩
  · rw [putS, if_neg (fun h2 => h h2.1)]
    refine (rput_bad n size w h).mono ?_
    rintro e w' ⟨rfl, rfl⟩
    exact ⟨_, rfl, IsB.nil_ _, Below.refl _ _⟩
theorem rtake_any (v : Value) (l : List UInt8) (size : Int) (w : World) (hv : IsB w v l) : Calls Try.prog 26 #[v, .int .i64 size] w fun e w' =>
    e = .returned (.tuple #[.int .i64 (takeS l size).1, .int .i64 (takeS l size).2]) ∧ w = w' := by
  obtain ⟨A, n, c, rfl, hnc, hcm, hl, hA⟩ := hv
  by_cases h : 1 ≤ size ∧ size ≤ 4
  · obtain ⟨s, rfl⟩ := Int.eq_ofNat_of_zero_le (show 0 ≤ size by omega)
    obtain ⟨h1, h2⟩ := h
    have hn : n ≤ maxLen := by omega
    unfold maxLen at hn
    clear hcm hnc
    by_cases hs : (n : Int) < s
    · rw [takeS, if_pos ⟨h1, h2⟩, if_pos (by rw [hl]; exact hs)]
      clear hl hA
      go_enter Try.func26, Try.ntmps26
      go_wp2
      go_ret2
      exact ⟨rfl, rfl⟩
    · rw [takeS, if_pos ⟨h1, h2⟩, if_neg (by rw [hl]; exact hs), Int.toNat_natCast]
      have HL := Lib.hid hl
      clear hl
      obtain ⟨ad, rfl, hc⟩ := hA (by rw [vals_length, HL.out]; omega)
      have HC := Lib.hid hc
      clear hc hA
      go_enter Try.func26, Try.ntmps26
      go_wp2
      go_loop [6, 7] (fun x i => ∃ k : Nat, k ≤ s ∧ i = .int .i64 k ∧ x = .int .i64 (val (l.take k))) (fun _ i => s - (intOf i).toNat)
      case atStart => exact ⟨0, Nat.zero_le _, rfl, rfl⟩
      case round =>
        obtain ⟨k, hk, rfl, rfl⟩ := hrel
        by_cases hlt : k < s
        · have hkl : k < l.length := by rw [HL.out]; omega
          have hcell : w.cell? (ad.add k) = some (.int .u8 (l[k].toNat : Int)) := HC.out k _ (by rw [List.getElem?_eq_getElem (by rw [vals_length]; exact hkl), vals_at])
          have hv := val_take_lt l k
          have hv2 : val (l.take k) ≤ 16777215 := by
            have : val (l.take k) < 16777216 := Nat.lt_of_lt_of_le hv (Nat.le_trans (Nat.pow_le_pow_right (by omega) (show k ≤ 3 by omega)) (by decide))
            omega
          have hby : l[k].toNat ≤ 255 := by have := l[k].toNat_lt; omega
          clear hv
          go_wp2
          go_round
          case rel =>
            refine ⟨k + 1, by omega, by go_num, ?_⟩
            rw [val_take_succ l k hkl]
            go_num
          case measure => simp [intOf]; omega
        · have hks : k = s := by omega
          subst hks
          go_wp2
          go_ret2
          exact ⟨rfl, rfl⟩
  · rw [takeS, if_neg h]
    clear hl hA hcm hnc
    by_cases h1 : size < 1
    · clear h
      go_enter Try.func26, Try.ntmps26
      go_wp2
      go_ret2
      exact ⟨rfl, rfl⟩
    · have h2 : 4 < size := by omega
      clear h
      go_enter Try.func26, Try.ntmps26
      go_wp2
      go_ret2
      exact ⟨rfl, rfl⟩
end Go.Proofs.Ytchbghnkfjandaa
