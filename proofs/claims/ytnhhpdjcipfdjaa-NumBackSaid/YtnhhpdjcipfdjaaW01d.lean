/- The walks of the laws of package theseuslaw01: NumBack. -/
import Derived.Test.YtnhhpdjcipfdjaaL01
import Derived.Test.YtnhhpdjcipfdjaaFrame
namespace Go.Proofs.Ytnhhpdjcipfdjaa
open Go.RowKit
set_option linter.unusedVariables false
set_option linter.unusedSimpArgs false
attribute [local go_sem ↓] sliced_cut
attribute [local go_sem] cutA_zero

theorem and_mask2 (m k : Nat) (hm : m < 4294967296) (hk : k ≤ 32) : bits .and .i64 (m : Int) (((2 ^ k - 1 : Nat)) : Int) = ((m % 2 ^ k : Nat) : Int) := by
  have h1 : 2 ^ k ≤ 2 ^ 32 := Nat.pow_le_pow_right (by omega) hk
  rw [i64_and_nat _ _ (by omega) (by omega), Nat.and_two_pow_sub_one_eq_mod]
set_option maxRecDepth 100000 in
set_option maxHeartbeats 1000000 in
theorem back_1 (m : Nat) (a1 : Int) (a2 : Option Addr) (n2 c2 : Nat) (L : List UInt8) (w : World) (hl0 : 0 ≤ (m : Int)) (hh0 : (m : Int) ≤ 4294967295) (hl1 : 0 ≤ a1) (hh1 : a1 ≤ 255) (hk : a1 % 4 = 0)
    (hcap : n2 ≤ c2) (HM : Hid (c2 ≤ maxLen)) (N : Nat) (HN : Hid (min n2 40 = N)) (hN1 : N ≤ 40) (hN2 : N ≤ c2) (HL : Hid (L.length = N)) (HH : Hid (Has w a2 (vals L))) :
    Calls Try.prog 4 #[.int .u32 m, .int .u8 a1, .slice a2 n2 c2] w fun e w' => e = .returned (.bool true) ∧ Below w.heap.size w w' := by
  obtain ⟨x, hx, hax⟩ : ∃ x : Nat, x < 256 ∧ bits .and .i64 (m : Int) 255 = (x : Int) := ⟨_, Nat.mod_lt _ (by decide), and_mask2 m 8 (by omega) (by omega)⟩
  have HX : Hid (x < 256 ^ 1) := hx
  have hx2 : (x : Int) ≤ 255 := by omega
  clear hx
  have hx0 : 0 ≤ (x : Int) := by omega
  go_enter Try.func4, Try.ntmps4
  go_wp2_with fail
  refine (shown1 _).mono ?_
  rintro e w1 ⟨rfl, hb1⟩
  have HB1 := Lib.hid hb1
  clear hb1
  go_wp2_with fail
  refine (put_ok _ _ _ (by omega) (by omega) hx0 (by simpa using HX.out)).mono ?_
  rintro e w' ⟨rfl, rfl⟩
  rw [show (1 : Int).toNat = 1 from rfl, Int.toNat_natCast]
  clear hax
  have p1 := Lib.hid (Has.new w1 (vals (be 1 x)) 5 (0, 0))
  have hb2 : Hid (Below w.heap.size w (w1.alloc (.cells (vals (be 1 x)).toArray 5))) := HB1.out.alloc HB1.out.size _
  have hg : Hid (w1.heap.size < (w1.alloc (.cells (vals (be 1 x)).toArray 5)).heap.size) := by simp [Hid]
  generalize w1.alloc (.cells (vals (be 1 x)).toArray 5) = W at *
  obtain ⟨g, hgg⟩ : ∃ g, w1.heap.size = g := ⟨_, rfl⟩
  rw [hgg] at p1 hg
  rw [hgg]
  clear hgg
  have HO0 : Hid ((W.alloc (.cells #[] 5)).ownsRow W.heap.size 5 1 (.slice (some ⟨W.heap.size, 0, none⟩) 0 0) 0 (vals [])) :=
    World.ownsRow_lit (e := 5) (size := 1) W #[] 0 (Nat.le_refl _) (by decide) rfl
  obtain ⟨i0, hi0, hz0, hz1, hz2⟩ := info_parts byte_info
  go_wp2_with (at_builtin; refine wpList_append_has _ rfl (.tmp 40) (.tmp 41) _ rfl W.heap.size 5 i0 (.int .u8 0) 1 Try.underlying23 hi0 hz0 hz1 hz2 rfl _ 0 _ rfl HO0.out _ 1 _ (vals (be 1 x)) rfl (by rw [vals_length, be_length]) (p1.out.alloc _) (vals_one _) (by unfold maxLen; omega) (by omega) (by simp only [World.size_alloc]; omega) ?_; intro v2 w2 hown2 hgrow2 _; have HO := Lib.hid hown2; have HG := Lib.hid hgrow2; clear hown2 hgrow2)
  have hb3 : Hid (Below W.heap.size W w2) := ((Below.refl _ _).alloc (Nat.le_refl _) _).grown HG.out (by simp only [World.size_alloc]; omega) (fun q hq => (HO0.out.lt q hq).1)
  refine (few1 _ _ _ _ hcap HM.out).mono ?_
  rintro e w' ⟨rfl, rfl⟩
  rw [HN.out]
  go_wp2_with (at_builtin; refine wpList_append_has _ rfl (.tmp 42) (.tmp 44) _ rfl W.heap.size 5 i0 (.int .u8 0) 1 Try.underlying23 hi0 hz0 hz1 hz2 rfl _ (0 + 1) _ rfl HO.out _ N _ (vals L) rfl (by rw [vals_length]; exact HL.out) ((HH.out.bel hb2.out).below hb3.out (Nat.le_refl _)) (vals_one _) (by unfold maxLen; omega) (by omega) hb3.out.size ?_; intro v3 w3 hown3 hgrow3 _; have HO3 := Lib.hid hown3; have HG3 := Lib.hid hgrow3; clear hown3 hgrow3)
  have hb4 : Hid (Below W.heap.size W w3) := hb3.out.grown HG3.out hb3.out.size (fun q hq => (HO.out.lt q hq).1)
  obtain ⟨A, c, rfl, hkc, hcm, hcl, hcA⟩ := Sl.of_own HO3.out
  have HB5 : Hid (Below w.heap.size w w3) := hb2.out.trans (hb4.out.mono hb2.out.size)
  have hcat : Hid (Has w3 A (vals (be 1 x ++ L))) := by
    have h := hcA
    rw [vals_append]
    exact h
  have hlen : Hid ((be 1 x ++ L).length = 0 + 1 + N) := by
    show _ = _
    rw [List.length_append, be_length, HL.out, Nat.zero_add]
  have htk : Hid (val (List.take 1 (be 1 x ++ L)) = x) := by
    show _ = _
    rw [List.take_append_of_le_length (by rw [be_length]; omega), List.take_of_length_le (by rw [be_length]; omega), val_be_lt _ _ HX.out]
  clear hcA hcl hcm HO0 HO HG hb3 hb4 HG3 HO3 hi0 hz0 hz1 hz2 p1
  refine (take_ok _ _ _ (be 1 x ++ L) _ _ hlen.out (by unfold maxLen; omega) hcat.out (by omega) (by omega) (by omega)).mono ?_
  rintro e w' ⟨rfl, rfl⟩
  rw [show (1 : Int).toNat = 1 from rfl, htk.out]
  go_wp2_with fail
  go_loop [14] (fun i => ∃ k : Nat, k ≤ 1 ∧ i = .int .i64 k) (fun i => 1 - (intOf i).toNat)
  case atStart => exact ⟨0, Nat.zero_le _, rfl⟩
  case round =>
    obtain ⟨k, hk2, rfl⟩ := hrel
    by_cases hlt : k < 1
    · go_wp2_with (go_at_call 15; refine (take_short _ _ _ _ _ (by omega) (by omega) (by omega)).mono ?_; rintro e w' ⟨rfl, rfl⟩)
      go_round
      case rel => exact ⟨k + 1, by omega, by go_num⟩
      case measure => simp [intOf]; omega
    · go_wp2_with fail
      refine (put_no _ _ _ (.inr (.inr (by show 256 ^ 1 ≤ _; omega)))).mono ?_
      rintro e w' ⟨rfl, rfl⟩
      go_wp2_with fail
      refine (put_no _ _ _ (.inr (.inl (by omega)))).mono ?_
      rintro e w' ⟨rfl, rfl⟩
      go_wp2
      go_ret
      exact ⟨rfl, HB5.out⟩
set_option maxRecDepth 100000 in
set_option maxHeartbeats 1000000 in
theorem back_2 (m : Nat) (a1 : Int) (a2 : Option Addr) (n2 c2 : Nat) (L : List UInt8) (w : World) (hl0 : 0 ≤ (m : Int)) (hh0 : (m : Int) ≤ 4294967295) (hl1 : 0 ≤ a1) (hh1 : a1 ≤ 255) (hk : a1 % 4 = 1)
    (hcap : n2 ≤ c2) (HM : Hid (c2 ≤ maxLen)) (N : Nat) (HN : Hid (min n2 40 = N)) (hN1 : N ≤ 40) (hN2 : N ≤ c2) (HL : Hid (L.length = N)) (HH : Hid (Has w a2 (vals L))) :
    Calls Try.prog 4 #[.int .u32 m, .int .u8 a1, .slice a2 n2 c2] w fun e w' => e = .returned (.bool true) ∧ Below w.heap.size w w' := by
  obtain ⟨x, hx, hax⟩ : ∃ x : Nat, x < 65536 ∧ bits .and .i64 (m : Int) 65535 = (x : Int) := ⟨_, Nat.mod_lt _ (by decide), and_mask2 m 16 (by omega) (by omega)⟩
  have HX : Hid (x < 256 ^ 2) := hx
  have hx2 : (x : Int) ≤ 65535 := by omega
  clear hx
  have hx0 : 0 ≤ (x : Int) := by omega
  go_enter Try.func4, Try.ntmps4
  go_wp2_with fail
  refine (shown1 _).mono ?_
  rintro e w1 ⟨rfl, hb1⟩
  have HB1 := Lib.hid hb1
  clear hb1
  go_wp2_with fail
  refine (put_ok _ _ _ (by omega) (by omega) hx0 (by simpa using HX.out)).mono ?_
  rintro e w' ⟨rfl, rfl⟩
  rw [show (2 : Int).toNat = 2 from rfl, Int.toNat_natCast]
  clear hax
  have p1 := Lib.hid (Has.new w1 (vals (be 2 x)) 5 (0, 0))
  have hb2 : Hid (Below w.heap.size w (w1.alloc (.cells (vals (be 2 x)).toArray 5))) := HB1.out.alloc HB1.out.size _
  have hg : Hid (w1.heap.size < (w1.alloc (.cells (vals (be 2 x)).toArray 5)).heap.size) := by simp [Hid]
  generalize w1.alloc (.cells (vals (be 2 x)).toArray 5) = W at *
  obtain ⟨g, hgg⟩ : ∃ g, w1.heap.size = g := ⟨_, rfl⟩
  rw [hgg] at p1 hg
  rw [hgg]
  clear hgg
  have HO0 : Hid ((W.alloc (.cells #[] 5)).ownsRow W.heap.size 5 1 (.slice (some ⟨W.heap.size, 0, none⟩) 0 0) 0 (vals [])) :=
    World.ownsRow_lit (e := 5) (size := 1) W #[] 0 (Nat.le_refl _) (by decide) rfl
  obtain ⟨i0, hi0, hz0, hz1, hz2⟩ := info_parts byte_info
  go_wp2_with (at_builtin; refine wpList_append_has _ rfl (.tmp 40) (.tmp 41) _ rfl W.heap.size 5 i0 (.int .u8 0) 1 Try.underlying23 hi0 hz0 hz1 hz2 rfl _ 0 _ rfl HO0.out _ 2 _ (vals (be 2 x)) rfl (by rw [vals_length, be_length]) (p1.out.alloc _) (vals_one _) (by unfold maxLen; omega) (by omega) (by simp only [World.size_alloc]; omega) ?_; intro v2 w2 hown2 hgrow2 _; have HO := Lib.hid hown2; have HG := Lib.hid hgrow2; clear hown2 hgrow2)
  have hb3 : Hid (Below W.heap.size W w2) := ((Below.refl _ _).alloc (Nat.le_refl _) _).grown HG.out (by simp only [World.size_alloc]; omega) (fun q hq => (HO0.out.lt q hq).1)
  refine (few1 _ _ _ _ hcap HM.out).mono ?_
  rintro e w' ⟨rfl, rfl⟩
  rw [HN.out]
  go_wp2_with (at_builtin; refine wpList_append_has _ rfl (.tmp 42) (.tmp 44) _ rfl W.heap.size 5 i0 (.int .u8 0) 1 Try.underlying23 hi0 hz0 hz1 hz2 rfl _ (0 + 2) _ rfl HO.out _ N _ (vals L) rfl (by rw [vals_length]; exact HL.out) ((HH.out.bel hb2.out).below hb3.out (Nat.le_refl _)) (vals_one _) (by unfold maxLen; omega) (by omega) hb3.out.size ?_; intro v3 w3 hown3 hgrow3 _; have HO3 := Lib.hid hown3; have HG3 := Lib.hid hgrow3; clear hown3 hgrow3)
  have hb4 : Hid (Below W.heap.size W w3) := hb3.out.grown HG3.out hb3.out.size (fun q hq => (HO.out.lt q hq).1)
  obtain ⟨A, c, rfl, hkc, hcm, hcl, hcA⟩ := Sl.of_own HO3.out
  have HB5 : Hid (Below w.heap.size w w3) := hb2.out.trans (hb4.out.mono hb2.out.size)
  have hcat : Hid (Has w3 A (vals (be 2 x ++ L))) := by
    have h := hcA
    rw [vals_append]
    exact h
  have hlen : Hid ((be 2 x ++ L).length = 0 + 2 + N) := by
    show _ = _
    rw [List.length_append, be_length, HL.out, Nat.zero_add]
  have htk : Hid (val (List.take 2 (be 2 x ++ L)) = x) := by
    show _ = _
    rw [List.take_append_of_le_length (by rw [be_length]; omega), List.take_of_length_le (by rw [be_length]; omega), val_be_lt _ _ HX.out]
  clear hcA hcl hcm HO0 HO HG hb3 hb4 HG3 HO3 hi0 hz0 hz1 hz2 p1
  refine (take_ok _ _ _ (be 2 x ++ L) _ _ hlen.out (by unfold maxLen; omega) hcat.out (by omega) (by omega) (by omega)).mono ?_
  rintro e w' ⟨rfl, rfl⟩
  rw [show (2 : Int).toNat = 2 from rfl, htk.out]
  go_wp2_with fail
  go_loop [14] (fun i => ∃ k : Nat, k ≤ 2 ∧ i = .int .i64 k) (fun i => 2 - (intOf i).toNat)
  case atStart => exact ⟨0, Nat.zero_le _, rfl⟩
  case round =>
    obtain ⟨k, hk2, rfl⟩ := hrel
    by_cases hlt : k < 2
    · go_wp2_with (go_at_call 15; refine (take_short _ _ _ _ _ (by omega) (by omega) (by omega)).mono ?_; rintro e w' ⟨rfl, rfl⟩)
      go_round
      case rel => exact ⟨k + 1, by omega, by go_num⟩
      case measure => simp [intOf]; omega
    · go_wp2_with fail
      refine (put_no _ _ _ (.inr (.inr (by show 256 ^ 2 ≤ _; omega)))).mono ?_
      rintro e w' ⟨rfl, rfl⟩
      go_wp2_with fail
      refine (put_no _ _ _ (.inr (.inl (by omega)))).mono ?_
      rintro e w' ⟨rfl, rfl⟩
      go_wp2
      go_ret
      exact ⟨rfl, HB5.out⟩
set_option maxRecDepth 100000 in
set_option maxHeartbeats 1000000 in
theorem back_3 (m : Nat) (a1 : Int) (a2 : Option Addr) (n2 c2 : Nat) (L : List UInt8) (w : World) (hl0 : 0 ≤ (m : Int)) (hh0 : (m : Int) ≤ 4294967295) (hl1 : 0 ≤ a1) (hh1 : a1 ≤ 255) (hk : a1 % 4 = 2)
    (hcap : n2 ≤ c2) (HM : Hid (c2 ≤ maxLen)) (N : Nat) (HN : Hid (min n2 40 = N)) (hN1 : N ≤ 40) (hN2 : N ≤ c2) (HL : Hid (L.length = N)) (HH : Hid (Has w a2 (vals L))) :
    Calls Try.prog 4 #[.int .u32 m, .int .u8 a1, .slice a2 n2 c2] w fun e w' => e = .returned (.bool true) ∧ Below w.heap.size w w' := by
  obtain ⟨x, hx, hax⟩ : ∃ x : Nat, x < 16777216 ∧ bits .and .i64 (m : Int) 16777215 = (x : Int) := ⟨_, Nat.mod_lt _ (by decide), and_mask2 m 24 (by omega) (by omega)⟩
  have HX : Hid (x < 256 ^ 3) := hx
  have hx2 : (x : Int) ≤ 16777215 := by omega
  clear hx
  have hx0 : 0 ≤ (x : Int) := by omega
  go_enter Try.func4, Try.ntmps4
  go_wp2_with fail
  refine (shown1 _).mono ?_
  rintro e w1 ⟨rfl, hb1⟩
  have HB1 := Lib.hid hb1
  clear hb1
  go_wp2_with fail
  refine (put_ok _ _ _ (by omega) (by omega) hx0 (by simpa using HX.out)).mono ?_
  rintro e w' ⟨rfl, rfl⟩
  rw [show (3 : Int).toNat = 3 from rfl, Int.toNat_natCast]
  clear hax
  have p1 := Lib.hid (Has.new w1 (vals (be 3 x)) 5 (0, 0))
  have hb2 : Hid (Below w.heap.size w (w1.alloc (.cells (vals (be 3 x)).toArray 5))) := HB1.out.alloc HB1.out.size _
  have hg : Hid (w1.heap.size < (w1.alloc (.cells (vals (be 3 x)).toArray 5)).heap.size) := by simp [Hid]
  generalize w1.alloc (.cells (vals (be 3 x)).toArray 5) = W at *
  obtain ⟨g, hgg⟩ : ∃ g, w1.heap.size = g := ⟨_, rfl⟩
  rw [hgg] at p1 hg
  rw [hgg]
  clear hgg
  have HO0 : Hid ((W.alloc (.cells #[] 5)).ownsRow W.heap.size 5 1 (.slice (some ⟨W.heap.size, 0, none⟩) 0 0) 0 (vals [])) :=
    World.ownsRow_lit (e := 5) (size := 1) W #[] 0 (Nat.le_refl _) (by decide) rfl
  obtain ⟨i0, hi0, hz0, hz1, hz2⟩ := info_parts byte_info
  go_wp2_with (at_builtin; refine wpList_append_has _ rfl (.tmp 40) (.tmp 41) _ rfl W.heap.size 5 i0 (.int .u8 0) 1 Try.underlying23 hi0 hz0 hz1 hz2 rfl _ 0 _ rfl HO0.out _ 3 _ (vals (be 3 x)) rfl (by rw [vals_length, be_length]) (p1.out.alloc _) (vals_one _) (by unfold maxLen; omega) (by omega) (by simp only [World.size_alloc]; omega) ?_; intro v2 w2 hown2 hgrow2 _; have HO := Lib.hid hown2; have HG := Lib.hid hgrow2; clear hown2 hgrow2)
  have hb3 : Hid (Below W.heap.size W w2) := ((Below.refl _ _).alloc (Nat.le_refl _) _).grown HG.out (by simp only [World.size_alloc]; omega) (fun q hq => (HO0.out.lt q hq).1)
  refine (few1 _ _ _ _ hcap HM.out).mono ?_
  rintro e w' ⟨rfl, rfl⟩
  rw [HN.out]
  go_wp2_with (at_builtin; refine wpList_append_has _ rfl (.tmp 42) (.tmp 44) _ rfl W.heap.size 5 i0 (.int .u8 0) 1 Try.underlying23 hi0 hz0 hz1 hz2 rfl _ (0 + 3) _ rfl HO.out _ N _ (vals L) rfl (by rw [vals_length]; exact HL.out) ((HH.out.bel hb2.out).below hb3.out (Nat.le_refl _)) (vals_one _) (by unfold maxLen; omega) (by omega) hb3.out.size ?_; intro v3 w3 hown3 hgrow3 _; have HO3 := Lib.hid hown3; have HG3 := Lib.hid hgrow3; clear hown3 hgrow3)
  have hb4 : Hid (Below W.heap.size W w3) := hb3.out.grown HG3.out hb3.out.size (fun q hq => (HO.out.lt q hq).1)
  obtain ⟨A, c, rfl, hkc, hcm, hcl, hcA⟩ := Sl.of_own HO3.out
  have HB5 : Hid (Below w.heap.size w w3) := hb2.out.trans (hb4.out.mono hb2.out.size)
  have hcat : Hid (Has w3 A (vals (be 3 x ++ L))) := by
    have h := hcA
    rw [vals_append]
    exact h
  have hlen : Hid ((be 3 x ++ L).length = 0 + 3 + N) := by
    show _ = _
    rw [List.length_append, be_length, HL.out, Nat.zero_add]
  have htk : Hid (val (List.take 3 (be 3 x ++ L)) = x) := by
    show _ = _
    rw [List.take_append_of_le_length (by rw [be_length]; omega), List.take_of_length_le (by rw [be_length]; omega), val_be_lt _ _ HX.out]
  clear hcA hcl hcm HO0 HO HG hb3 hb4 HG3 HO3 hi0 hz0 hz1 hz2 p1
  refine (take_ok _ _ _ (be 3 x ++ L) _ _ hlen.out (by unfold maxLen; omega) hcat.out (by omega) (by omega) (by omega)).mono ?_
  rintro e w' ⟨rfl, rfl⟩
  rw [show (3 : Int).toNat = 3 from rfl, htk.out]
  go_wp2_with fail
  go_loop [14] (fun i => ∃ k : Nat, k ≤ 3 ∧ i = .int .i64 k) (fun i => 3 - (intOf i).toNat)
  case atStart => exact ⟨0, Nat.zero_le _, rfl⟩
  case round =>
    obtain ⟨k, hk2, rfl⟩ := hrel
    by_cases hlt : k < 3
    · go_wp2_with (go_at_call 15; refine (take_short _ _ _ _ _ (by omega) (by omega) (by omega)).mono ?_; rintro e w' ⟨rfl, rfl⟩)
      go_round
      case rel => exact ⟨k + 1, by omega, by go_num⟩
      case measure => simp [intOf]; omega
    · go_wp2_with fail
      refine (put_no _ _ _ (.inr (.inr (by show 256 ^ 3 ≤ _; omega)))).mono ?_
      rintro e w' ⟨rfl, rfl⟩
      go_wp2_with fail
      refine (put_no _ _ _ (.inr (.inl (by omega)))).mono ?_
      rintro e w' ⟨rfl, rfl⟩
      go_wp2
      go_ret
      exact ⟨rfl, HB5.out⟩
set_option maxRecDepth 100000 in
set_option maxHeartbeats 1000000 in
theorem back_4 (m : Nat) (a1 : Int) (a2 : Option Addr) (n2 c2 : Nat) (L : List UInt8) (w : World) (hl0 : 0 ≤ (m : Int)) (hh0 : (m : Int) ≤ 4294967295) (hl1 : 0 ≤ a1) (hh1 : a1 ≤ 255) (hk : a1 % 4 = 3)
    (hcap : n2 ≤ c2) (HM : Hid (c2 ≤ maxLen)) (N : Nat) (HN : Hid (min n2 40 = N)) (hN1 : N ≤ 40) (hN2 : N ≤ c2) (HL : Hid (L.length = N)) (HH : Hid (Has w a2 (vals L))) :
    Calls Try.prog 4 #[.int .u32 m, .int .u8 a1, .slice a2 n2 c2] w fun e w' => e = .returned (.bool true) ∧ Below w.heap.size w w' := by
  obtain ⟨x, hx, hax⟩ : ∃ x : Nat, x < 4294967296 ∧ bits .and .i64 (m : Int) 4294967295 = (x : Int) := ⟨_, Nat.mod_lt _ (by decide), and_mask2 m 32 (by omega) (by omega)⟩
  have HX : Hid (x < 256 ^ 4) := hx
  have hx2 : (x : Int) ≤ 4294967295 := by omega
  clear hx
  have hx0 : 0 ≤ (x : Int) := by omega
  go_enter Try.func4, Try.ntmps4
  go_wp2_with fail
  refine (shown1 _).mono ?_
  rintro e w1 ⟨rfl, hb1⟩
  have HB1 := Lib.hid hb1
  clear hb1
  go_wp2_with fail
  refine (put_ok _ _ _ (by omega) (by omega) hx0 (by simpa using HX.out)).mono ?_
  rintro e w' ⟨rfl, rfl⟩
  rw [show (4 : Int).toNat = 4 from rfl, Int.toNat_natCast]
  clear hax
  have p1 := Lib.hid (Has.new w1 (vals (be 4 x)) 5 (0, 0))
  have hb2 : Hid (Below w.heap.size w (w1.alloc (.cells (vals (be 4 x)).toArray 5))) := HB1.out.alloc HB1.out.size _
  have hg : Hid (w1.heap.size < (w1.alloc (.cells (vals (be 4 x)).toArray 5)).heap.size) := by simp [Hid]
  generalize w1.alloc (.cells (vals (be 4 x)).toArray 5) = W at *
  obtain ⟨g, hgg⟩ : ∃ g, w1.heap.size = g := ⟨_, rfl⟩
  rw [hgg] at p1 hg
  rw [hgg]
  clear hgg
  have HO0 : Hid ((W.alloc (.cells #[] 5)).ownsRow W.heap.size 5 1 (.slice (some ⟨W.heap.size, 0, none⟩) 0 0) 0 (vals [])) :=
    World.ownsRow_lit (e := 5) (size := 1) W #[] 0 (Nat.le_refl _) (by decide) rfl
  obtain ⟨i0, hi0, hz0, hz1, hz2⟩ := info_parts byte_info
  go_wp2_with (at_builtin; refine wpList_append_has _ rfl (.tmp 40) (.tmp 41) _ rfl W.heap.size 5 i0 (.int .u8 0) 1 Try.underlying23 hi0 hz0 hz1 hz2 rfl _ 0 _ rfl HO0.out _ 4 _ (vals (be 4 x)) rfl (by rw [vals_length, be_length]) (p1.out.alloc _) (vals_one _) (by unfold maxLen; omega) (by omega) (by simp only [World.size_alloc]; omega) ?_; intro v2 w2 hown2 hgrow2 _; have HO := Lib.hid hown2; have HG := Lib.hid hgrow2; clear hown2 hgrow2)
  have hb3 : Hid (Below W.heap.size W w2) := ((Below.refl _ _).alloc (Nat.le_refl _) _).grown HG.out (by simp only [World.size_alloc]; omega) (fun q hq => (HO0.out.lt q hq).1)
  refine (few1 _ _ _ _ hcap HM.out).mono ?_
  rintro e w' ⟨rfl, rfl⟩
  rw [HN.out]
  go_wp2_with (at_builtin; refine wpList_append_has _ rfl (.tmp 42) (.tmp 44) _ rfl W.heap.size 5 i0 (.int .u8 0) 1 Try.underlying23 hi0 hz0 hz1 hz2 rfl _ (0 + 4) _ rfl HO.out _ N _ (vals L) rfl (by rw [vals_length]; exact HL.out) ((HH.out.bel hb2.out).below hb3.out (Nat.le_refl _)) (vals_one _) (by unfold maxLen; omega) (by omega) hb3.out.size ?_; intro v3 w3 hown3 hgrow3 _; have HO3 := Lib.hid hown3; have HG3 := Lib.hid hgrow3; clear hown3 hgrow3)
  have hb4 : Hid (Below W.heap.size W w3) := hb3.out.grown HG3.out hb3.out.size (fun q hq => (HO.out.lt q hq).1)
  obtain ⟨A, c, rfl, hkc, hcm, hcl, hcA⟩ := Sl.of_own HO3.out
  have HB5 : Hid (Below w.heap.size w w3) := hb2.out.trans (hb4.out.mono hb2.out.size)
  have hcat : Hid (Has w3 A (vals (be 4 x ++ L))) := by
    have h := hcA
    rw [vals_append]
    exact h
  have hlen : Hid ((be 4 x ++ L).length = 0 + 4 + N) := by
    show _ = _
    rw [List.length_append, be_length, HL.out, Nat.zero_add]
  have htk : Hid (val (List.take 4 (be 4 x ++ L)) = x) := by
    show _ = _
    rw [List.take_append_of_le_length (by rw [be_length]; omega), List.take_of_length_le (by rw [be_length]; omega), val_be_lt _ _ HX.out]
  clear hcA hcl hcm HO0 HO HG hb3 hb4 HG3 HO3 hi0 hz0 hz1 hz2 p1
  refine (take_ok _ _ _ (be 4 x ++ L) _ _ hlen.out (by unfold maxLen; omega) hcat.out (by omega) (by omega) (by omega)).mono ?_
  rintro e w' ⟨rfl, rfl⟩
  rw [show (4 : Int).toNat = 4 from rfl, htk.out]
  go_wp2_with fail
  go_loop [14] (fun i => ∃ k : Nat, k ≤ 4 ∧ i = .int .i64 k) (fun i => 4 - (intOf i).toNat)
  case atStart => exact ⟨0, Nat.zero_le _, rfl⟩
  case round =>
    obtain ⟨k, hk2, rfl⟩ := hrel
    by_cases hlt : k < 4
    · go_wp2_with (go_at_call 15; refine (take_short _ _ _ _ _ (by omega) (by omega) (by omega)).mono ?_; rintro e w' ⟨rfl, rfl⟩)
      go_round
      case rel => exact ⟨k + 1, by omega, by go_num⟩
      case measure => simp [intOf]; omega
    · go_wp2_with fail
      refine (put_no _ _ _ (.inr (.inr (by show 256 ^ 4 ≤ _; omega)))).mono ?_
      rintro e w' ⟨rfl, rfl⟩
      go_wp2_with fail
      refine (put_no _ _ _ (.inr (.inl (by omega)))).mono ?_
      rintro e w' ⟨rfl, rfl⟩
      go_wp2
      go_ret
      exact ⟨rfl, HB5.out⟩
theorem walkNumBack (a0 a1 : Int) (a2 : Option Addr) (n2 c2 : Nat) (l2 : List UInt8) (w : World) (w0 : (Lit.int .u32 a0).wf = true) (w1 : (Lit.int .u8 a1).wf = true) (w2 : InB w a2 n2 c2 l2) :
    Calls Try.prog 4 #[.int .u32 a0, .int .u8 a1, .slice a2 n2 c2] w fun e w' => e = .returned (.bool true) ∧ Below w.heap.size w w' := by
  obtain ⟨hl0, hh0⟩ := bounds_u32 w0
  obtain ⟨hl1, hh1⟩ := bounds_u8 w1
  obtain ⟨m, rfl⟩ := Int.eq_ofNat_of_zero_le hl0
  obtain ⟨hlen, hcap, hmax, hhas⟩ := w2
  have h1 : (l2.take 40).length = min n2 40 := by rw [List.length_take, hlen, Nat.min_comm]
  have h2 : Has w a2 (vals (l2.take 40)) := by rw [vals_take]; exact hhas.take 40
  rcases (by omega : a1 % 4 = 0 ∨ a1 % 4 = 1 ∨ a1 % 4 = 2 ∨ a1 % 4 = 3) with hk | hk | hk | hk
  · exact back_1 m a1 a2 n2 c2 _ w hl0 hh0 hl1 hh1 hk hcap hmax _ rfl (by omega) (by omega) h1 h2
  · exact back_2 m a1 a2 n2 c2 _ w hl0 hh0 hl1 hh1 hk hcap hmax _ rfl (by omega) (by omega) h1 h2
  · exact back_3 m a1 a2 n2 c2 _ w hl0 hh0 hl1 hh1 hk hcap hmax _ rfl (by omega) (by omega) h1 h2
  · exact back_4 m a1 a2 n2 c2 _ w hl0 hh0 hl1 hh1 hk hcap hmax _ rfl (by omega) (by omega) h1 h2
end Go.Proofs.Ytnhhpdjcipfdjaa
