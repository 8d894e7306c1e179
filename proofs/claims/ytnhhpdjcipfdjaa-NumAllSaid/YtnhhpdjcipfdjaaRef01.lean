/- Contracts of package theseusref01 (the document's answers for layer 1). -/
import Derived.Test.YtnhhpdjcipfdjaaNum
import Derived.OpenShut
namespace Go.Proofs.Ytnhhpdjcipfdjaa
open Go.RowKit
set_option linter.unusedVariables false
set_option linter.unusedSimpArgs false
attribute [local go_sem ↓] sliced_cut
attribute [local go_sem] cutA_zero

theorem rput_bad (n size : Int) (w : World) (h : ¬ (1 ≤ size ∧ size ≤ 4)) :
    Calls Try.prog 12 #[.int .i64 n, .int .i64 size] w fun e w' => e = .returned (.tuple #[.slice none 0 0, .int .i64 1]) ∧ w = w' := by
  by_cases h1 : size < 1
  · clear h
    go_enter Try.func12, Try.ntmps12
    go_wp2
    go_ret2
    exact ⟨rfl, rfl⟩
  · have h2 : 4 < size := by omega
    clear h
    go_enter Try.func12, Try.ntmps12
    go_wp2
    go_ret2
    exact ⟨rfl, rfl⟩
theorem low_byte (y : Nat) (hy : y < 9223372036854775808) : bits .and .i64 (y : Int) 255 = ((UInt8.ofNat y).toNat : Int) := by
  rw [toNat_ofNat_mod]
  have := i64_and_nat y 255 hy (by omega)
  rw [show (255 : Nat) = 2 ^ 8 - 1 from rfl, Nat.and_two_pow_sub_one_eq_mod] at this
  exact this
theorem rput_pos (n s : Nat) (w : World) (hn : Hid (n < 9223372036854775808)) (h1 : 1 ≤ (s : Int)) (h2 : (s : Int) ≤ 4) :
    Calls Try.prog 12 #[.int .i64 n, .int .i64 s] w fun e w' =>
      ∃ v, e = .returned (.tuple #[v, .int .i64 (putS n s).2]) ∧ IsB w' v (putS n s).1 ∧ Below w.heap.size w w' := by
  have hn0 : 0 ≤ (n : Int) := by omega
  obtain ⟨B, hB⟩ : ∃ B, w.heap.size = B := ⟨_, rfl⟩
  have HB := Lib.hid hB
  clear hB
  have HI := Lib.hid byte_info
  go_enter Try.func12, Try.ntmps12
  go_wp2
  go_loopw [6, 7, 8] (fun v x i wr => ∃ k y : Nat, k ≤ s ∧ i = .int .i64 k ∧ x = .int .i64 y ∧ Hid (y = n / 256 ^ k) ∧ Hid (IsB wr v (be k n)) ∧ Hid (Below B w wr)) (fun _ _ i _ => s - (intOf i).toNat)
  case atStart =>
    refine ⟨0, n, Nat.zero_le _, rfl, rfl, by simp [Hid], ?_, ?_⟩
    · exact IsB.of_own (World.ownsRow_lit (e := 5) (size := 1) w #[] 0 (Nat.le_refl _) (by decide) rfl)
    · have := (Below.refl w.heap.size w).alloc (Nat.le_refl _) (.cells #[] 5)
      rw [HB.out] at this
      exact this
  case round =>
    obtain ⟨k, y, hk, rfl, rfl, HY, HV, HBe⟩ := hrel
    by_cases hlt : k < s
    · have hand := low_byte y (by rw [HY.out]; exact Nat.lt_of_le_of_lt (Nat.div_le_self _ _) hn.out)
      have hyn : y < 9223372036854775808 := by rw [HY.out]; exact Nat.lt_of_le_of_lt (Nat.div_le_self _ _) hn.out
      have hdiv : wrap64 ((y : Int) / 256) = ((y / 256 : Nat) : Int) := IntWalk.wrap64_in _ (by omega)
      clear hyn
      have HOL := Lib.hid (World.ownsRow_lit (e := 5) (size := 1) wr (vals [UInt8.ofNat y]).toArray 1 (Nat.le_refl _) (by decide) rfl)
      have hby : (UInt8.ofNat y).toNat ≤ 255 := by have := (UInt8.ofNat y).toNat_lt; omega
      obtain ⟨A, m, c, rfl, hnc, hcm, hl, hA⟩ := HV.out
      rw [be_length] at hl
      subst hl
      have HA := Lib.hid hA
      have HCM := Lib.hid hcm
      clear hA hcm HV
      obtain ⟨i0, hi0, hz0, hz1, hz2⟩ := info_parts HI.out
      go_wp2_with (at_builtin; refine wpList_append_has _ rfl (.tmp 25) (.tmp 26) _ rfl wr.heap.size 5 i0 (.int .u8 0) 1 Try.underlying23 hi0 hz0 hz1 hz2 rfl _ 1 (vals [UInt8.ofNat y]) rfl HOL.out _ k _ (vals (be k n)) rfl (by rw [vals_length, be_length]) (HA.out.alloc _) (vals_one _) (by unfold maxLen; omega) (by omega) (by simp only [World.size_alloc]; omega) ?_; intro v2 w2 hown2 hgrow2 _; have HO := Lib.hid hown2; have HG := Lib.hid hgrow2; clear hown2 hgrow2)
      go_roundw
      case rel =>
        refine ⟨k + 1, y / 256, by omega, by go_num, by rw [hdiv], ?_, ?_, ?_⟩
        · show _ = _
          rw [HY.out, Nat.div_div_eq_div_mul, Nat.pow_succ]
        · have h := HO.out
          rw [← vals_append] at h
          rw [be_head, ← HY.out]
          exact IsB.of_own h
        · have hz := HBe.out.size
          rw [HB.out] at hz
          have hg : Below wr.heap.size wr w2 := ((Below.refl _ _).alloc (Nat.le_refl _) _).grown HG.out (by simp only [World.size_alloc]; omega) (fun q hq => (HOL.out.lt q hq).1)
          exact HBe.out.trans (hg.mono hz)
      case measure => simp [intOf]; omega
    · have hks : k = s := by omega
      subst hks
      have hput : putS n k = if n < 256 ^ k then (be k n, 0) else ([], 1) := by
        unfold putS
        by_cases h : n < 256 ^ k
        · rw [if_pos h, if_pos ⟨⟨h1, h2⟩, hn0, by simpa using h⟩]
          simp
        · rw [if_neg h, if_neg (fun h3 => h (by simpa using h3.2.2))]
      have hp : 0 < 256 ^ k := Nat.pow_pos (by omega)
      by_cases h : n < 256 ^ k
      · have hy0 : y = 0 := by rw [HY.out]; exact Nat.div_eq_of_lt h
        rw [if_pos h] at hput
        have HF : Hid (Ending.returned (.tuple #[u6, .int .i64 0]) = .returned (.tuple #[u6, .int .i64 (putS n k).2])) := by
          show _ = _
          rw [hput]
        have HV3 : Hid (IsB wr u6 (putS n k).1) := by
          rw [hput]
          exact HV.out
        have HBe2 := HBe.out
        rw [← HB.out] at HBe2
        have HB3 := Lib.hid HBe2
        subst hy0
        clear hput h HY HV HBe HBe2
        go_wp2
        go_ret2
        exact ⟨_, HF.out, HV3.out, HB3.out⟩
      · have hy0 : y ≠ 0 := by
          intro h0
          have h3 := HY.out
          rw [h0] at h3
          have := (Nat.div_eq_zero_iff.1 h3.symm)
          omega
        rw [if_neg h] at hput
        have HF : Hid (Ending.returned (.tuple #[.slice none 0 0, .int .i64 1]) = .returned (.tuple #[.slice none 0 0, .int .i64 (putS n k).2])) := by
          show _ = _
          rw [hput]
        have HV3 : Hid (IsB wr (.slice none 0 0) (putS n k).1) := by
          rw [hput]
          exact IsB.nil_ _
        have HBe2 := HBe.out
        rw [← HB.out] at HBe2
        have HB3 := Lib.hid HBe2
        have hy1 : ((y : Int) != 0) = true := by rw [bne_iff_ne]; omega
        clear hput h HY HV HBe HBe2
        go_wp2
        go_ret2
        exact ⟨_, HF.out, HV3.out, HB3.out⟩
theorem rput_neg (n : Int) (s : Nat) (w : World) (hn : n < 0) (h1 : 1 ≤ (s : Int)) (h2 : (s : Int) ≤ 4) :
    Calls Try.prog 12 #[.int .i64 n, .int .i64 s] w fun e w' =>
      e = .returned (.tuple #[.slice none 0 0, .int .i64 1]) ∧ Below w.heap.size w w' := by
  obtain ⟨B, hB⟩ : ∃ B, w.heap.size = B := ⟨_, rfl⟩
  have HB := Lib.hid hB
  clear hB
  have HI := Lib.hid byte_info
  go_enter Try.func12, Try.ntmps12
  go_wp2
  go_loopw [6, 7, 8] (fun v x i wr => ∃ (k : Nat) (y : Int) (xs : List Value), k ≤ s ∧ i = .int .i64 k ∧ x = .int .i64 y ∧ Hid (Sl wr v k xs ∧ ∀ u ∈ xs, u.oneCell' = true) ∧ Hid (Below B w wr)) (fun _ _ i _ => s - (intOf i).toNat)
  case atStart =>
    refine ⟨0, n, [], Nat.zero_le _, rfl, rfl, ⟨?_, by simp⟩, ?_⟩
    · exact Sl.of_own (World.ownsRow_lit (e := 5) (size := 1) w #[] 0 (Nat.le_refl _) (by decide) rfl)
    · have := (Below.refl w.heap.size w).alloc (Nat.le_refl _) (.cells #[] 5)
      rw [HB.out] at this
      exact this
  case round =>
    obtain ⟨k, y, xs, hk, rfl, rfl, HV, HBe⟩ := hrel
    by_cases hlt : k < s
    · obtain ⟨⟨A, c, rfl, hnc, hcm, hl, hA⟩, hone⟩ := HV.out
      have HA := Lib.hid hA
      have HCM := Lib.hid hcm
      have HLL := Lib.hid hl
      have HON := Lib.hid hone
      clear hA hcm HV hl hone
      obtain ⟨i0, hi0, hz0, hz1, hz2⟩ := info_parts HI.out
      go_wp2_with (at_builtin; refine wpList_append_has _ rfl (.tmp 25) (.tmp 26) _ rfl wr.heap.size 5 i0 (.int .u8 0) 1 Try.underlying23 hi0 hz0 hz1 hz2 rfl (.slice (some ⟨wr.heap.size, 0, none⟩) 1 1) 1 _ rfl (World.ownsRow_lit (e := 5) (size := 1) wr _ 1 (Nat.le_refl _) (by decide) rfl) _ k _ xs rfl HLL.out (HA.out.alloc _) HON.out (by unfold maxLen; omega) (by omega) (by simp only [World.size_alloc]; omega) ?_; intro v2 w2 hown2 hgrow2 _; have HO := Lib.hid hown2; have HG := Lib.hid hgrow2; clear hown2 hgrow2)
      go_roundw
      case rel =>
        refine ⟨k + 1, wrap64 (y.tdiv 256), Value.int .u8 (bits .and .i64 y 255 % 256) :: xs, by omega, by go_num, rfl, ⟨?_, ?_⟩, ?_⟩
        · have h := HO.out
          rw [Nat.add_comm] at h
          exact Sl.of_own h
        · intro u hu
          rcases List.mem_cons.1 hu with rfl | hu
          · rfl
          · exact HON.out u hu
        · have hz := HBe.out.size
          rw [HB.out] at hz
          have hg : Below wr.heap.size wr w2 := ((Below.refl _ _).alloc (Nat.le_refl _) _).grown HG.out (by simp only [World.size_alloc]; omega) (fun q hq => by simp only [Value.ownBlock, Option.some.injEq] at hq; omega)
          exact HBe.out.trans (hg.mono hz)
      case measure => simp [intOf]; omega
    · have HBe2 := HBe.out
      rw [← HB.out] at HBe2
      have HB3 := Lib.hid HBe2
      clear HBe HBe2 HV
      go_wp2
      go_ret2
      exact ⟨rfl, HB3.out⟩
theorem rput_any (n size : Int) (w : World) (hw : (Lit.int .i64 n).wf = true) : Calls Try.prog 12 #[.int .i64 n, .int .i64 size] w fun e w' =>
    ∃ v, e = .returned (.tuple #[v, .int .i64 (putS n size).2]) ∧ IsB w' v (putS n size).1 ∧ Below w.heap.size w w' := by
  by_cases h : 1 ≤ size ∧ size ≤ 4
  · obtain ⟨s, rfl⟩ := Int.eq_ofNat_of_zero_le (show 0 ≤ size by omega)
    by_cases h0 : n < 0
    · rw [putS, if_neg (by omega)]
      refine (rput_neg n s w h0 h.1 h.2).mono ?_
      rintro e w' ⟨rfl, hb⟩
      exact ⟨_, rfl, IsB.nil_ _, hb⟩
    · obtain ⟨m, rfl⟩ := Int.eq_ofNat_of_zero_le (show 0 ≤ n by omega)
      exact rput_pos m s w (by have := (bounds_i64 hw).2; show m < _; omega) h.1 h.2
  · rw [putS, if_neg (fun h2 => h h2.1)]
    refine (rput_bad n size w h).mono ?_
    rintro e w' ⟨rfl, rfl⟩
    exact ⟨_, rfl, IsB.nil_ _, Below.refl _ _⟩
theorem rtake_any (v : Value) (l : List UInt8) (size : Int) (w : World) (hv : IsB w v l) : Calls Try.prog 17 #[v, .int .i64 size] w fun e w' =>
    e = .returned (.tuple #[.int .i64 (takeS l size).1, .int .i64 (takeS l size).2]) ∧ w = w' := by
  obtain ⟨A, n, c, rfl, hnc, hcm, hl, hA⟩ := hv
  by_cases h : 1 ≤ size ∧ size ≤ 4
  · obtain ⟨s, rfl⟩ := Int.eq_ofNat_of_zero_le (show 0 ≤ size by omega)
    obtain ⟨h1, h2⟩ := h
    have hn : n ≤ maxLen := by omega
    unfold maxLen at hn
    clear hcm hnc
    by_cases hs : (n : Int) < s
    · rw [takeS, if_pos ⟨h1, h2⟩, if_pos (by rw [hl]; exact hs)]
      clear hl hA
      go_enter Try.func17, Try.ntmps17
      go_wp2
      go_ret2
      exact ⟨rfl, rfl⟩
    · rw [takeS, if_pos ⟨h1, h2⟩, if_neg (by rw [hl]; exact hs), Int.toNat_natCast]
      have HL := Lib.hid hl
      clear hl
      obtain ⟨ad, rfl, hc⟩ := hA (by rw [vals_length, HL.out]; omega)
      have HC := Lib.hid hc
      clear hc hA
      go_enter Try.func17, Try.ntmps17
      go_wp2
      go_loop [6, 7] (fun x i => ∃ k : Nat, k ≤ s ∧ i = .int .i64 k ∧ x = .int .i64 (val (l.take k))) (fun _ i => s - (intOf i).toNat)
      case atStart => exact ⟨0, Nat.zero_le _, rfl, rfl⟩
      case round =>
        obtain ⟨k, hk, rfl, rfl⟩ := hrel
        by_cases hlt : k < s
        · have hkl : k < l.length := by rw [HL.out]; omega
          have hcell : w.cell? (ad.add k) = some (.int .u8 (l[k].toNat : Int)) := HC.out k _ (by rw [List.getElem?_eq_getElem (by rw [vals_length]; exact hkl), vals_at])
          have hv := val_take_lt l k
          have hv2 : val (l.take k) ≤ 16777215 := by
            have : val (l.take k) < 16777216 := Nat.lt_of_lt_of_le hv (Nat.le_trans (Nat.pow_le_pow_right (by omega) (show k ≤ 3 by omega)) (by decide))
            omega
          have hby : l[k].toNat ≤ 255 := by have := l[k].toNat_lt; omega
          clear hv
          go_wp2
          go_round
          case rel =>
            refine ⟨k + 1, by omega, by go_num, ?_⟩
            rw [val_take_succ l k hkl]
            go_num
          case measure => simp [intOf]; omega
        · have hks : k = s := by omega
          subst hks
          go_wp2
          go_ret2
          exact ⟨rfl, rfl⟩
  · rw [takeS, if_neg h]
    clear hl hA hcm hnc
    by_cases h1 : size < 1
    · clear h
      go_enter Try.func17, Try.ntmps17
      go_wp2
      go_ret2
      exact ⟨rfl, rfl⟩
    · have h2 : 4 < size := by omega
      clear h
      go_enter Try.func17, Try.ntmps17
      go_wp2
      go_ret2
      exact ⟨rfl, rfl⟩
theorem rrow_core (A : Option Addr) (n c : Nat) (l : List Int) (s : Nat) (w : World) (hl : l.length = n) (hn : n ≤ 1048576) (hA : Has w A (ints l)) (hw : ∀ x ∈ l, (Lit.int .i64 x).wf = true) (h1 : 1 ≤ (s : Int)) (h2 : (s : Int) ≤ 4) :
    Calls Try.prog 14 #[.int .i64 s, .slice A n c] w fun e w' =>
      ∃ r, e = .returned (.tuple #[r, .int .i64 (rowS s l).2]) ∧ IsB w' r (rowS s l).1 ∧ Below w.heap.size w w' := by
  have HL := Lib.hid hl
  clear hl
  have HWF := Lib.hid hw
  clear hw
  have hA0 := Lib.hid hA
  clear hA
  obtain ⟨i0, hi0, hz0, hz1, hz2⟩ := info_parts byte_info
  have HI : Hid (Try.prog.info? 5 = some i0 ∧ i0.zero = some (.int .u8 0) ∧ i0.size = 1 ∧ i0.bytes = 1) := ⟨hi0, hz0, hz1, hz2⟩
  clear hi0 hz0 hz1 hz2
  obtain ⟨B, hB⟩ : ∃ B, B = w.heap.size := ⟨_, rfl⟩
  have HB := Lib.hid hB
  clear hB
  go_enter Try.func14, Try.ntmps14
  go_wp2
  go_loopw [6, 7] (fun v i wr => ∃ k : Nat, k ≤ n ∧ i = .int .i64 k ∧ Hid (wr.ownsRow B 5 1 v (k * s) (vals (rowb s (l.take k)))) ∧ Hid (Below B w wr) ∧ Hid (∀ x ∈ l.take k, fits s x)) (fun _ i _ => n - (intOf i).toNat)
  case atStart =>
    refine ⟨0, Nat.zero_le _, rfl, ?_, ?_, by simp [Hid]⟩
    · rw [HB.out, Nat.zero_mul]
      exact World.ownsRow_lit (e := 5) (size := 1) w #[] 0 (Nat.le_refl _) (by decide) rfl
    · rw [HB.out]
      exact (Below.refl _ _).alloc (Nat.le_refl _) _
  case round =>
    obtain ⟨k, hk, rfl, HW, HBe, HF⟩ := hrel
    have hz := HBe.out.size
    rw [← HB.out] at hz
    have HZ := Lib.hid hz
    clear hz
    by_cases hlt : k < n
    · have hkl : k < l.length := by rw [HL.out]; exact hlt
      have hwf := HWF.out l[k] (List.getElem_mem hkl)
      obtain ⟨ad, rfl, hcell⟩ := hA0.out.at_ (k := k) (by rw [ints_length]; exact hkl)
      rw [ints_at l k hkl] at hcell
      obtain ⟨hi0, hz0, hz1, hz2⟩ := HI.out
      have HC := Lib.hid hcell
      clear hcell
      have hcell : wr.cell? (ad.add k) = some (.int .i64 l[k]) := by
        rw [HBe.out.cell (by rw [HB.out]; exact World.block_lt_of_cell? w _ HC.out)]
        exact HC.out
      have h3 : k * s ≤ n * 4 := Nat.mul_le_mul (by omega) (by omega)
      have HWl := Lib.hid hwf
      clear hwf
      go_wp2_with fail
      refine (rput_any _ _ _ HWl.out).mono ?_
      rintro e w2 ⟨v2, rfl, hv2, hb2⟩
      have HB2 := Lib.hid hb2
      have HW2 := Lib.hid (own_bel HW.out hb2)
      clear hb2
      by_cases hfit : (1 ≤ (s : Int) ∧ (s : Int) ≤ 4) ∧ 0 ≤ l[k] ∧ l[k].toNat < 256 ^ (s : Int).toNat
      · rw [putS, if_pos hfit] at hv2
        rw [putS, if_pos hfit]
        rw [Int.toNat_natCast] at hv2 hfit
        have HFK : Hid (fits s l[k]) := ⟨hfit.2.1, hfit.2.2⟩
        clear hfit
        obtain ⟨A2, n2, c2, rfl, hnc2, hcm2, hl2, hA2⟩ := hv2
        rw [be_length] at hl2
        subst hl2
        have HA2 := Lib.hid hA2
        clear hA2 hcm2
        have hzz := HB2.out.size
        go_wp2_with (at_builtin; refine wpList_append_has _ rfl (.tmp 35) (.tmp 36) _ rfl B 5 i0 (.int .u8 0) 1 Try.underlying23 hi0 hz0 hz1 hz2 rfl _ (k * s) _ rfl HW2.out _ s _ (vals (be s l[k].toNat)) rfl (by rw [vals_length, be_length]) HA2.out (vals_one _) (by unfold maxLen; omega) (by omega) (by have := HZ.out; omega) ?_; intro v' w3 hown1 hgrow1 _; have HO := Lib.hid hown1; have HG := Lib.hid hgrow1; clear hown1 hgrow1)
        go_roundw
        case rel =>
          refine ⟨k + 1, by omega, by go_num, ?_, ?_, ?_⟩
          · rw [rowb_take_succ s l k hkl, vals_append, Nat.add_mul, Nat.one_mul]
            exact HO.out
          · exact (HBe.out.trans (HB2.out.mono HZ.out)).grown HG.out (by have := HZ.out; omega) (fun g hg => (HW2.out.lt g hg).1)
          · intro x hx
            rw [take_snoc_get l k hkl] at hx
            rcases List.mem_append.1 hx with hx | hx
            · exact HF.out x hx
            · rw [List.mem_singleton.1 hx]
              exact HFK.out
        case measure => simp [intOf]; omega
      · rw [putS, if_neg hfit] at hv2
        rw [putS, if_neg hfit]
        have hall : ¬ ((1 ≤ (s : Int) ∧ (s : Int) ≤ 4) ∧ l.all (fitsB (s : Int).toNat) = true) := fun h => hfit ⟨h.1, fitsB_iff.1 (List.all_eq_true.1 h.2 _ (List.getElem_mem hkl))⟩
        have HE : Hid (Ending.returned (.tuple #[.slice none 0 0, .int .i64 1]) = .returned (.tuple #[.slice none 0 0, .int .i64 (rowS s l).2])) := by
          show _ = _
          rw [rowS, if_neg hall]
        have HE2 : Hid (IsB w2 (.slice none 0 0) (rowS s l).1) := by
          rw [rowS, if_neg hall]
          exact IsB.nil_ _
        have HB4 : Hid (Below w.heap.size w w2) := by
          have := HBe.out.trans (HB2.out.mono HZ.out)
          rw [HB.out] at this
          exact this
        clear hall hfit hv2
        go_wp2
        go_ret2
        exact ⟨_, HE.out, HE2.out, HB4.out⟩
    · have hkn : k = n := by omega
      subst hkn
      have hall : (1 ≤ (s : Int) ∧ (s : Int) ≤ 4) ∧ l.all (fitsB (s : Int).toNat) = true := by
        refine ⟨⟨h1, h2⟩, List.all_eq_true.2 fun x hx => fitsB_iff.2 ?_⟩
        have h := HF.out
        rw [List.take_of_length_le (by rw [HL.out]; omega)] at h
        rw [Int.toNat_natCast]
        exact h x hx
      have HE : Hid (Ending.returned (.tuple #[u6, .int .i64 0]) = .returned (.tuple #[u6, .int .i64 (rowS s l).2])) := by
        show _ = _
        rw [rowS, if_pos hall]
      have HE2 : Hid (IsB wr u6 (rowS s l).1) := by
        have h := HW.out
        rw [List.take_of_length_le (by rw [HL.out]; omega)] at h
        rw [rowS, if_pos hall, Int.toNat_natCast]
        exact IsB.of_own h
      have HB4 : Hid (Below w.heap.size w wr) := by
        have := HBe.out
        rw [HB.out] at this
        exact this
      clear hall
      go_wp2
      go_ret2
      exact ⟨_, HE.out, HE2.out, HB4.out⟩
theorem rrow_any (v : Value) (l : List Int) (size : Int) (w : World) (hv : IsI w v l) (hn : l.length ≤ 1048576) (hw : ∀ x ∈ l, (Lit.int .i64 x).wf = true) : Calls Try.prog 14 #[.int .i64 size, v] w fun e w' =>
    ∃ r, e = .returned (.tuple #[r, .int .i64 (rowS size l).2]) ∧ IsB w' r (rowS size l).1 ∧ Below w.heap.size w w' := by
  by_cases h : 1 ≤ size ∧ size ≤ 4
  · obtain ⟨A, n, c, rfl, hnc, hcm, hl, hA⟩ := hv
    obtain ⟨s, rfl⟩ := Int.eq_ofNat_of_zero_le (show 0 ≤ size by omega)
    exact rrow_core A n c l s w hl (by omega) hA hw h.1 h.2
  · rw [rowS, if_neg (fun h3 => h h3.1)]
    have fin : ∀ (e : Ending) (w' : World), e = .returned (.tuple #[.slice none 0 0, .int .i64 1]) ∧ w = w' → ∃ r, e = .returned (.tuple #[r, .int .i64 1]) ∧ IsB w' r [] ∧ Below w.heap.size w w' := by
      rintro e w' ⟨rfl, rfl⟩
      exact ⟨_, rfl, IsB.nil_ _, Below.refl _ _⟩
    refine Calls.mono ?_ fin
    clear hv fin
    by_cases h1 : size < 1
    · clear h
      go_enter Try.func14, Try.ntmps14
      go_wp2
      go_ret2
      exact ⟨rfl, rfl⟩
    · have h2 : 4 < size := by omega
      clear h
      go_enter Try.func14, Try.ntmps14
      go_wp2
      go_ret2
      exact ⟨rfl, rfl⟩
end Go.Proofs.Ytnhhpdjcipfdjaa
