/- Contracts of package theseusref02 (the document's answers for layer 2). -/
import Derived.Test.YtlobajlodbdeiaaDoorGroup
import Derived.OpenShut
namespace Go.Proofs.YtlobajlodbdeiaaDoor
open Go.RowKit
set_option linter.unusedVariables false
set_option linter.unusedSimpArgs false

theorem rgput_no (n : Int) (w : World) (h : ¬ (0 ≤ n ∧ n ≤ 268435455)) :
    Calls Tryd.prog 29 #[.int .i64 n] w fun e w' => e = .returned (.tuple #[.slice none 0 0, .int .i64 1]) ∧ w = w' := by
  by_cases h1 : n < 0
  · clear h
    go_enter Tryd.func29, Tryd.ntmps29
    go_wp2
    go_ret2
    exact ⟨rfl, rfl⟩
  · have h2 : 268435455 < n := by omega
    clear h
    go_enter Tryd.func29, Tryd.ntmps29
    go_wp2
    go_ret2
    exact ⟨rfl, rfl⟩
theorem one_byte (x : Nat) (hx : x < 256) : [Value.int .u8 (x : Int)] = vals [UInt8.ofNat x] := by
  simp only [vals, List.map_cons, List.map_nil, toNat_ofNat_lt hx]
theorem rgput_core (N : Nat) (w : World) (hN : (N : Int) ≤ 268435455) :
    Calls Tryd.prog 29 #[.int .i64 N] w fun e w' =>
      ∃ v, e = .returned (.tuple #[v, .int .i64 0]) ∧ IsB w' v (grp N) ∧ Below w.heap.size w w' := by
  have hn0 : 0 ≤ (N : Int) := by omega
  obtain ⟨B, hB⟩ : ∃ B, w.heap.size = B := ⟨_, rfl⟩
  have HB := Lib.hid hB
  clear hB
  have HI := Lib.hid byte_info
  go_enter Tryd.func29, Tryd.ntmps29
  go_wp2
  go_loopw [0, 4] (fun x v wr => ∃ k y : Nat, k ≤ 3 ∧ x = .int .i64 y ∧ y ≤ 2097151 ∧ Hid (y = N / 128 ^ (k + 1)) ∧ Hid (k = 0 ∨ N / 128 ^ k ≠ 0) ∧ Hid (IsB wr v (hi k (N / 128) ++ [UInt8.ofNat (N % 128)])) ∧ Hid (Below B w wr)) (fun x _ _ => (intOf x).toNat)
  case atStart =>
    refine ⟨0, N / 128, by omega, by simp, by omega, by simp [Hid], .inl rfl, ?_, ?_⟩
    · have h := World.ownsRow_lit (base := 0) (e := 5) (size := 1) w #[Value.int .u8 ((N % 128 : Nat) : Int)] 1 (Nat.zero_le _) (by decide) rfl
      rw [show (#[Value.int .u8 ((N % 128 : Nat) : Int)]).toList = vals [UInt8.ofNat (N % 128)] from one_byte _ (by omega), show ((N % 128 : Nat) : Int) = (N : Int) % 128 from by simp] at h
      exact IsB.of_own h
    · have := (Below.refl w.heap.size w).alloc (Nat.le_refl _) (.cells #[.int .u8 ((N % 128 : Nat) : Int)] 5)
      rw [HB.out] at this
      exact this
  case round =>
    obtain ⟨k, y, hk, rfl, hy, HY, HK, HV, HBe⟩ := hrel
    by_cases hlt : 0 < y
    · have hk2 := size_goes N k (by omega) hk (by rw [← HY.out]; omega)
      obtain ⟨A, m, c, rfl, hnc, hcm, hl, hA⟩ := HV.out
      rw [List.length_append, hi_length, List.length_singleton] at hl
      subst hl
      have HA := Lib.hid hA
      have HCM := Lib.hid hcm
      clear hA hcm HV
      obtain ⟨i0, hi0, hz0, hz1, hz2⟩ := info_parts HI.out
      go_wp2_with (at_builtin; refine wpList_append_has _ rfl (.tmp 23) (.tmp 24) _ rfl wr.heap.size 5 i0 (.int .u8 0) 1 Tryd.underlying22 hi0 hz0 hz1 hz2 rfl (.slice (some ⟨wr.heap.size, 0, none⟩) 1 1) 1 _ rfl (World.ownsRow_lit (e := 5) (size := 1) wr _ 1 (Nat.le_refl _) (by decide) rfl) _ (k + 1) _ (vals (hi k (N / 128) ++ [UInt8.ofNat (N % 128)])) rfl (by rw [vals_length, List.length_append, hi_length]; rfl) (HA.out.alloc _) (vals_one _) (by unfold maxLen; omega) (by omega) (by simp only [World.size_alloc]; omega) ?_; intro v2 w2 hown2 hgrow2 _; have HO := Lib.hid hown2; have HG := Lib.hid hgrow2; clear hown2 hgrow2)
      go_roundw
      case rel =>
        refine ⟨k + 1, y / 128, hk2, by simp, by omega, ?_, .inr (by rw [← HY.out]; omega), ?_, ?_⟩
        · show _ = _
          rw [HY.out, Nat.div_div_eq_div_mul, Nat.pow_succ 128 (k + 1)]
        · have h := HO.out
          rw [show (128 + (y : Int) % 128) = ((128 + y % 128 : Nat) : Int) from by omega, show (#[Value.int .u8 ((128 + y % 128 : Nat) : Int)]).toList = vals [UInt8.ofNat (128 + y % 128)] from one_byte _ (by omega), ← vals_append] at h
          rw [hi_head, Nat.div_div_eq_div_mul, Nat.mul_comm 128, ← Nat.pow_succ, ← HY.out]
          exact IsB.of_own h
        · have hz := HBe.out.size
          rw [HB.out] at hz
          have hg : Below wr.heap.size wr w2 := ((Below.refl _ _).alloc (Nat.le_refl _) _).grown HG.out (by simp only [World.size_alloc]; omega) (fun q hq => by simp only [Value.ownBlock, Option.some.injEq] at hq; omega)
          exact HBe.out.trans (hg.mono hz)
      case measure => simp [intOf]; omega
    · have he := size_end N k (by omega) hk (by rw [← HY.out]; omega) HK.out
      have HV2 : Hid (IsB wr u4 (grp N)) := by
        show IsB _ _ _
        rw [grp, he]
        exact HV.out
      have HB2 := HBe.out
      rw [← HB.out] at HB2
      have HB3 := Lib.hid HB2
      clear HV HBe HB2 he HK HY
      go_wp2
      go_ret2
      exact ⟨_, rfl, HV2.out, HB3.out⟩
theorem rgput_any (n : Int) (w : World) : Calls Tryd.prog 29 #[.int .i64 n] w fun e w' =>
    ∃ v, e = .returned (.tuple #[v, .int .i64 (putG n).2]) ∧ IsB w' v (putG n).1 ∧ Below w.heap.size w w' := by
  by_cases h : 0 ≤ n ∧ n ≤ 268435455
  · rw [putG, if_pos h]
    obtain ⟨N, rfl⟩ := Int.eq_ofNat_of_zero_le h.1
    rw [Int.toNat_natCast]
    exact rgput_core N w h.2
  · rw [putG, if_neg h]
    refine (rgput_no n w h).mono ?_
    rintro e w' ⟨rfl, rfl⟩
    exact ⟨_, rfl, IsB.nil_ _, Below.refl _ _⟩
set_option maxRecDepth 100000 in
set_option maxHeartbeats 1000000 in
theorem rgtake_core (A : Option Addr) (n c : Nat) (l : List UInt8) (w : World) (hl : Hid (l.length = n)) (hnc : n ≤ c) (hcm : c ≤ maxLen) (hA : Hid (Has w A (vals l))) :
    Calls Tryd.prog 32 #[.slice A n c] w fun e w' => e = .returned (.tuple #[.int .i64 (takeG l).1, .int .i64 (takeG l).2.1, .int .i64 (takeG l).2.2]) ∧ w = w' := by
  unfold maxLen at hcm
  obtain ⟨R, hR⟩ : ∃ R, takeG l = R := ⟨_, rfl⟩
  rw [hR]
  have HR := Lib.hid hR
  clear hR
  by_cases hn : 0 < n
  · have hn0 : 0 < l.length := by rw [hl.out]; exact hn
    obtain ⟨ad, rfl, hc0⟩ := hA.out.at_ (k := 0) (by rw [vals_length]; exact hn0)
    rw [vals_at l 0 hn0] at hc0
    rw [addr_zero] at hc0
    obtain ⟨b, hb'⟩ : ∃ b, l[0] = b := ⟨_, rfl⟩
    rw [hb'] at hc0
    have HB0 := Lib.hid hb'
    clear hb'
    by_cases hb : b.toNat = 128
    · have HE : Hid (R = (0, 0, 3)) := by
        show _ = _
        rw [← HR.out, takeG, ← List.drop_zero (l := l), List.drop_eq_getElem_cons hn0, HB0.out, takeR_form _ _ _ _ (by omega) (.inl ⟨rfl, hb⟩)]
      have t1 : ((b.toNat : Int) == 128) = true := beq_iff_eq.2 (by omega)
      clear hb
      go_enter Tryd.func32, Tryd.ntmps32
      go_wp2
      go_ret3
      exact ⟨by rw [HE.out]; rfl, rfl⟩
    · have t1 : ((b.toNat : Int) == 128) = false := by rw [beq_eq_false_iff_ne]; omega
      have HNB : Hid (b.toNat ≠ 128) := hb
      clear hb
      go_enter Tryd.func32, Tryd.ntmps32
      go_wp2
      clear hc0 t1
      go_loop [5, 6] (fun x i => ∃ k y : Nat, k ≤ 4 ∧ k ≤ n ∧ i = .int .i64 k ∧ x = .int .i64 y ∧ y ≤ 268435455 ∧ Hid (y < 128 ^ k) ∧ Hid (k ≤ 3 → R = takeR k y (l.drop k)) ∧ Hid (k = 4 → R = (0, 0, 3))) (fun _ i => 4 - (intOf i).toNat)
      case atStart => exact ⟨0, 0, by omega, by omega, rfl, rfl, by omega, by simp [Hid], by intro _; rw [← HR.out]; rfl, by intro h; omega⟩
      case round =>
        obtain ⟨k, y, hk, hkn, rfl, rfl, hy, HY, HT, HF⟩ := hrel
        by_cases hlt : k < n
        · by_cases hk4 : k < 4
          · have hkl : k < l.length := by rw [hl.out]; exact hlt
            obtain ⟨ad', he, hcell⟩ := hA.out.at_ (k := k) (by rw [vals_length]; exact hkl)
            injection he with he
            subst he
            rw [vals_at l k hkl] at hcell
            obtain ⟨d, hd⟩ : ∃ d, l[k] = d := ⟨_, rfl⟩
            rw [hd] at hcell
            have HD : Hid (R = takeR k y (d :: l.drop (k + 1))) := by
              show _ = _
              rw [HT.out (by omega), List.drop_eq_getElem_cons hkl, hd]
            have HK0 : Hid (k = 0 → d.toNat ≠ 128) := by
              intro h
              subst h
              rw [← hd, HB0.out]
              exact HNB.out
            clear hd HT
            have hd2 : d.toNat ≤ 255 := by have := d.toNat_lt; omega
            have hyy : y ≤ 2097151 := by
              have h5 : 128 ^ k ≤ 128 ^ 3 := Nat.pow_le_pow_right (by omega) (by omega)
              have h6 : 128 ^ 3 = 2097152 := rfl
              have := HY.out
              omega
            by_cases hb : d.toNat < 128
            · have HE : Hid (R = (((y * 128 + d.toNat : Nat) : Int), ((k + 1 : Nat) : Int), 0)) := by
                show _ = _
                rw [HD.out, takeR_last _ _ _ _ hb]
              clear HD
              go_wp2
              go_ret3
              refine ⟨?_, rfl⟩
              show Ending.returned (.tuple #[.int .i64 ((y : Int) * 128 + (d.toNat : Int) % 128), .int .i64 ((k : Int) + 1), .int .i64 0]) = _
              rw [HE.out, show ((d.toNat : Int) % 128) = d.toNat from by omega]
              rfl
            · have HD2 : Hid ((k + 1 ≤ 3 → R = takeR (k + 1) (y * 128 + (d.toNat - 128)) (l.drop (k + 1))) ∧ (k + 1 = 4 → R = (0, 0, 3))) := by
                refine ⟨fun h => ?_, fun h => ?_⟩
                · rw [HD.out, takeR_more _ _ _ _ (by omega) HK0.out (by omega)]
                · rw [HD.out, takeR_form _ _ _ _ (by omega) (.inr (by omega))]
              clear HD
              obtain ⟨z, hz⟩ : ∃ z, d.toNat = z + 128 := ⟨d.toNat - 128, by omega⟩
              rw [hz] at hcell HD2 hd2
              rw [Nat.add_sub_cancel] at HD2
              go_wp2
              go_round
              case rel =>
                refine ⟨k + 1, y * 128 + z, by omega, by omega, by go_num, by rw [show ((z : Int) % 128) = z from by omega]; go_num, by omega, ?_, HD2.out.1, HD2.out.2⟩
                show _ < _
                rw [Nat.pow_succ]
                have := HY.out
                omega
              case measure => simp [intOf]; omega
          · have HE : Hid (R = (0, 0, 3)) := HF.out (by omega)
            have hn4 : 4 ≤ (n : Int) := by omega
            clear HT HF
            go_wp2
            go_ret3
            exact ⟨by rw [HE.out]; rfl, rfl⟩
        · by_cases hk4 : k < 4
          · have HE : Hid (R = (0, 0, 2)) := by
              show _ = _
              rw [HT.out (by omega), List.drop_eq_nil_of_le (by rw [hl.out]; omega)]
              rfl
            have hn4 : ¬ 4 ≤ (n : Int) := by omega
            clear HT HF
            go_wp2
            go_ret3
            exact ⟨by rw [HE.out]; rfl, rfl⟩
          · have HE : Hid (R = (0, 0, 3)) := HF.out (by omega)
            have hn4 : 4 ≤ (n : Int) := by omega
            clear HT HF
            go_wp2
            go_ret3
            exact ⟨by rw [HE.out]; rfl, rfl⟩
  · have HE : Hid (R = (0, 0, 2)) := by
      show _ = _
      have hl0 : l = [] := List.eq_nil_of_length_eq_zero (by rw [hl.out]; omega)
      rw [← HR.out, takeG, hl0]
      rfl
    have hn4 : ¬ 4 ≤ (n : Int) := by omega
    go_enter Tryd.func32, Tryd.ntmps32
    go_wp2
    go_loop [5, 6] (fun x i => x = .int .i64 0 ∧ i = .int .i64 0) (fun _ _ => 0)
    case atStart => exact ⟨rfl, rfl⟩
    case round =>
      obtain ⟨rfl, rfl⟩ := hrel
      go_wp2
      go_ret3
      exact ⟨by rw [HE.out]; rfl, rfl⟩
theorem rgtake_any (v : Value) (l : List UInt8) (w : World) (hv : IsB w v l) : Calls Tryd.prog 32 #[v] w fun e w' => e = .returned (.tuple #[.int .i64 (takeG l).1, .int .i64 (takeG l).2.1, .int .i64 (takeG l).2.2]) ∧ w = w' := by
  obtain ⟨A, n, c, rfl, hnc, hcm, hl, hA⟩ := hv
  exact rgtake_core A n c l w hl hnc hcm hA
end Go.Proofs.YtlobajlodbdeiaaDoor
