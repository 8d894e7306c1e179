/- Contracts of package theseusref05 (the document's answers for layer 5). -/
import Derived.Test.YtloaaaddbmcpdaaDoorAdr
namespace Go.Proofs.YtloaaaddbmcpdaaDoor
open Go.RowKit
set_option linter.unusedVariables false
set_option linter.unusedSimpArgs false

theorem rbit_out (a : Nat) (i : Int) (w : World) (ha : (a : Int) ≤ 4294967295) (h : ¬ (0 ≤ i ∧ i ≤ 31)) :
    Calls Tryd.prog 30 #[.int .u32 a, .int .i64 i] w fun e w' => e = .returned (.int .i64 0) ∧ w = w' := by
  by_cases h1 : i < 0
  · clear h
    go_enter Tryd.func30, Tryd.ntmps30
    go_wp2
    go_ret
    exact ⟨rfl, rfl⟩
  · have h2 : 31 < i := by omega
    have h3 : 0 ≤ i := by omega
    clear h
    go_enter Tryd.func30, Tryd.ntmps30
    go_wp2
    go_ret
    exact ⟨rfl, rfl⟩
theorem rbit_in (a i : Nat) (w : World) (ha : (a : Int) ≤ 4294967295) (hi : (i : Int) ≤ 31) :
    Calls Tryd.prog 30 #[.int .u32 a, .int .i64 i] w fun e w' => e = .returned (.int .i64 (bitN a i : Int)) ∧ w = w' := by
  have h0 : 0 ≤ (i : Int) := by omega
  obtain ⟨j, hj⟩ : ∃ j : Nat, (31 : Int) - (i : Int) = (j : Int) := ⟨31 - i, by omega⟩
  have hj2 : j = 31 - i := by omega
  go_enter Tryd.func30, Tryd.ntmps30
  go_wp2
  go_ret
  refine ⟨?_, rfl⟩
  have e : (a : Int) / 2 ^ (31 - i) = ((a / 2 ^ (31 - i) : Nat) : Int) := by rw [Int.natCast_ediv, Int.natCast_pow]; rfl
  have l : a / 2 ^ (31 - i) ≤ 4294967295 := Nat.le_trans (Nat.div_le_self _ _) (by omega)
  rw [e, u32_low _ l]
  show Ending.returned (.int .i64 (wrap64 ((bitN a i : Nat) : Int))) = _
  have l2 : bitN a i < 2 := Nat.mod_lt _ (by omega)
  rw [show wrap64 ((bitN a i : Nat) : Int) = (bitN a i : Int) by unfold wrap64; omega]
theorem rbit_any (a : Nat) (i : Int) (w : World) (ha : (a : Int) ≤ 4294967295) :
    Calls Tryd.prog 30 #[.int .u32 a, .int .i64 i] w fun e w' => e = .returned (.int .i64 (bitF a i : Int)) ∧ w = w' := by
  by_cases h : 0 ≤ i ∧ i ≤ 31
  · rw [bitF, if_pos h]
    obtain ⟨n, rfl⟩ := Int.eq_ofNat_of_zero_le h.1
    rw [Int.toNat_natCast]
    exact rbit_in a n w ha h.2
  · rw [bitF, if_neg h]
    exact rbit_out a i w ha h

/-! first bits alike -/
theorem bitN_le (a i : Nat) : bitN a i ≤ 1 := by unfold bitN; omega
theorem bitN_test (a i : Nat) : bitN a i = (a.testBit (31 - i)).toNat := by
  rw [Nat.testBit_eq_decide_div_mod_eq, bitN]
  have : a / 2 ^ (31 - i) % 2 < 2 := Nat.mod_lt _ (by omega)
  by_cases h : a / 2 ^ (31 - i) % 2 = 1
  · simp [h]
  · simp [show a / 2 ^ (31 - i) % 2 = 0 by omega]
theorem bitLen_bounds (x : Nat) (hx : x < 2 ^ 32) : Lib.bitLen x ≤ 32 ∧ x < 2 ^ Lib.bitLen x ∧ (0 < Lib.bitLen x → 2 ^ (Lib.bitLen x - 1) ≤ x) := by
  have key : ∀ (k x : Nat), x < 2 ^ k → k ≤ 32 → Lib.bitLen x ≤ k ∧ x < 2 ^ Lib.bitLen x ∧ (0 < Lib.bitLen x → 2 ^ (Lib.bitLen x - 1) ≤ x) := by
    intro k
    induction k with
    | zero =>
      intro x hx _
      have : x = 0 := by simpa using hx
      subst this
      decide
    | succ k ih =>
      intro x hx hk
      by_cases h0 : x = 0
      · subst h0
        have : Lib.bitLen 0 = 0 := rfl
        rw [this]
        simp
      · have hp : 2 ^ (k + 1) ≤ 2 ^ 32 := Nat.pow_le_pow_right (by omega) hk
        rw [Lib.bitLen_half x h0 (by omega)]
        obtain ⟨h1, h2, h3⟩ := ih (x / 2) (by rw [Nat.pow_succ] at hx; omega) (by omega)
        refine ⟨by omega, ?_, fun _ => ?_⟩
        · rw [Nat.pow_add]
          omega
        · rw [Nat.add_sub_cancel_left]
          generalize hL : Lib.bitLen (x / 2) = L at *
          cases L with
          | zero => simp; omega
          | succ L =>
            have := h3 (by omega)
            rw [Nat.add_sub_cancel] at this
            rw [Nat.pow_succ]
            omega
  exact key 32 x hx (Nat.le_refl _)
theorem com_le (a b : Nat) : com a b ≤ 32 := Nat.sub_le _ _
theorem xor_lt {a b : Nat} (ha : a < 2 ^ 32) (hb : b < 2 ^ 32) : a ^^^ b < 2 ^ 32 := Nat.xor_lt_two_pow ha hb
theorem com_same (a b i : Nat) (ha : a < 2 ^ 32) (hb : b < 2 ^ 32) (h : i < com a b) : bitN a i = bitN b i := by
  obtain ⟨h1, h2, _⟩ := bitLen_bounds (a ^^^ b) (xor_lt ha hb)
  unfold com at h
  have h3 : (a ^^^ b).testBit (31 - i) = false := Nat.testBit_lt_two_pow (Nat.lt_of_lt_of_le h2 (Nat.pow_le_pow_right (by omega) (by omega)))
  rw [Nat.testBit_xor] at h3
  rw [bitN_test, bitN_test]
  revert h3
  cases a.testBit (31 - i) <;> cases b.testBit (31 - i) <;> simp
theorem com_not (a b : Nat) (ha : a < 2 ^ 32) (hb : b < 2 ^ 32) (h : com a b < 32) : bitN a (com a b) ≠ bitN b (com a b) := by
  obtain ⟨h1, h2, h4⟩ := bitLen_bounds (a ^^^ b) (xor_lt ha hb)
  have hc : com a b = 32 - Lib.bitLen (a ^^^ b) := rfl
  have h5 := h4 (by omega)
  have h6 : 31 - com a b = Lib.bitLen (a ^^^ b) - 1 := by omega
  have h3 : (a ^^^ b).testBit (31 - com a b) = true := by
    rw [h6, Nat.testBit_eq_decide_div_mod_eq]
    have h7 : 2 ^ Lib.bitLen (a ^^^ b) = 2 ^ (Lib.bitLen (a ^^^ b) - 1) * 2 := by rw [← Nat.pow_succ]; congr 1; omega
    have h8 : (a ^^^ b) / 2 ^ (Lib.bitLen (a ^^^ b) - 1) = 1 := by
      apply Nat.div_eq_of_lt_le
      · omega
      · omega
    rw [h8]
    rfl
  rw [Nat.testBit_xor] at h3
  rw [bitN_test, bitN_test]
  revert h3
  cases a.testBit (31 - com a b) <;> cases b.testBit (31 - com a b) <;> simp
/-- what holds of one number alone -/
theorem com_unique (a b n : Nat) (ha : a < 2 ^ 32) (hb : b < 2 ^ 32) (hn : n ≤ 32) (h1 : ∀ i, i < n → bitN a i = bitN b i) (h2 : n < 32 → bitN a n ≠ bitN b n) : com a b = n := by
  have hl := com_le a b
  rcases Nat.lt_trichotomy (com a b) n with h | h | h
  · exact absurd (h1 _ h) (com_not a b ha hb (by omega))
  · exact h
  · exact absurd (com_same a b n ha hb h) (h2 (by omega))
theorem sum_step (a k : Nat) (hk : k < 32) : a / 2 ^ (32 - (k + 1)) = a / 2 ^ (32 - k) * 2 + bitN a k := by
  rw [show 32 - k = (31 - k) + 1 by omega, Nat.pow_succ, ← Nat.div_div_eq_div_mul, show 32 - (k + 1) = 31 - k by omega, bitN]
  omega
theorem sum_le (a k : Nat) (hk : k < 32) (ha : a ≤ 4294967295) : a / 2 ^ (32 - k) ≤ 2147483647 := by
  rw [show 32 - k = (31 - k) + 1 by omega, Nat.pow_succ, Nat.mul_comm, ← Nat.div_div_eq_div_mul]
  exact Nat.le_trans (Nat.div_le_self _ _) (by omega)
theorem high_same (a b n : Nat) (ha : a < 2 ^ 32) (hb : b < 2 ^ 32) (h : ∀ i, i < n → bitN a i = bitN b i) : ∀ k, k ≤ n → k ≤ 32 → a / 2 ^ (32 - k) = b / 2 ^ (32 - k)
  | 0, _, _ => by rw [Nat.sub_zero, Nat.div_eq_of_lt ha, Nat.div_eq_of_lt hb]
  | k + 1, h1, h2 => by rw [sum_step a k (by omega), sum_step b k (by omega), high_same a b n ha hb h k (by omega) (by omega), h k (by omega)]
theorem com_full (a b : Nat) (ha : a < 2 ^ 32) (hb : b < 2 ^ 32) (h : com a b = 32) : a = b := by
  have := high_same a b 32 ha hb (fun i hi => com_same a b i ha hb (by omega)) 32 (by omega) (by omega)
  simpa using this
theorem com_self (a : Nat) : com a a = 32 := by rw [com, Nat.xor_self]; rfl
theorem com_comm (a b : Nat) : com b a = com a b := by rw [com, com, Nat.xor_comm]
theorem com_less (a b : Nat) (ha : a < 2 ^ 32) (hb : b < 2 ^ 32) (h : com a b < 32) : (bitN a (com a b) = 0 ∧ bitN b (com a b) = 1 ∧ a < b) ∨ (bitN a (com a b) = 1 ∧ bitN b (com a b) = 0 ∧ b < a) := by
  have h1 := high_same a b (com a b) ha hb (fun i hi => com_same a b i ha hb hi) (com a b) (Nat.le_refl _) (by omega)
  have h2 := com_not a b ha hb h
  have h3 := sum_step a (com a b) h
  have h4 := sum_step b (com a b) h
  have h5 := bitN_le a (com a b)
  have h6 := bitN_le b (com a b)
  rw [h1] at h3
  generalize bitN a (com a b) = x at *
  generalize bitN b (com a b) = y at *
  generalize b / 2 ^ (32 - com a b) = q at *
  have key : ∀ (u v d : Nat), u / d < v / d → u < v := fun u v d hd => by
    rcases Nat.lt_or_ge u v with g | g
    · exact g
    · exact absurd (Nat.div_le_div_right (c := d) g) (by omega)
  rcases (by omega : (x = 0 ∧ y = 1) ∨ (x = 1 ∧ y = 0)) with ⟨rfl, rfl⟩ | ⟨rfl, rfl⟩
  · exact .inl ⟨rfl, rfl, key a b (2 ^ (32 - (com a b + 1))) (by omega)⟩
  · exact .inr ⟨rfl, rfl, key b a (2 ^ (32 - (com a b + 1))) (by omega)⟩
/-! texts -/
theorem size_of (l : List UInt8) : (⟨l.toArray⟩ : ByteArray).size = l.length := by simp [ByteArray.size]
theorem ba_app (x y : List UInt8) : (⟨x.toArray⟩ ++ ⟨y.toArray⟩ : ByteArray) = ⟨(x ++ y).toArray⟩ := by
  apply ByteArray.ext
  simp
theorem post_le (a k : Nat) (hk : k ≤ 4) : (post a k).length ≤ 4 * k := by
  induction k with
  | zero => simp [post]
  | succ k ih =>
    have h1 := dec_le3 (a / 256 ^ k % 256) (Nat.mod_lt _ (by omega))
    have h2 := ih (by omega)
    rw [post]
    split <;> simp <;> omega
set_option maxHeartbeats 1000000 in
theorem rprint_any (a : Nat) (w : World) (ha : (a : Int) ≤ 4294967295) (ht : Hid (Tab w)) :
    Calls Tryd.prog 33 #[.int .u32 a] w fun e w' => e = .returned (.string ⟨(txt a).toArray⟩) ∧ Below w.heap.size w w' := by
  go_enter Tryd.func33, Tryd.ntmps33
  go_wp2
  go_loopw [0, 3, 4] (fun x t i wr => ∃ (k y : Nat) (s : ByteArray), k ≤ 4 ∧ i = .int .i64 k ∧ x = .int .u32 y ∧ (y : Int) ≤ 4294967295 ∧ t = .string s ∧ s.size ≤ 16 ∧ Hid (y = a / 256 ^ k) ∧ Hid (s = ⟨(post a k).toArray⟩) ∧ Hid (Below w.heap.size w wr)) (fun _ _ i _ => 4 - (intOf i).toNat)
  case atStart => exact ⟨0, a, ⟨#[]⟩, by omega, rfl, rfl, ha, rfl, by decide, by simp [Hid], rfl, Below.refl _ _⟩
  case round =>
    obtain ⟨k, y, s, hk, rfl, rfl, hy, rfl, hs, HY, HS, HB⟩ := hrel
    have HT := Lib.hid (ht.out.bel HB.out)
    by_cases hlt : k < 4
    · have hl3 := dec_le3 (y % 256) (Nat.mod_lt _ (by omega))
      have c := itoa_any (y % 256) wr (by omega) HT
      obtain ⟨d, hd⟩ : ∃ d : ByteArray, ⟨(dec (y % 256)).toArray⟩ = d := ⟨_, rfl⟩
      have hdl : d.size ≤ 3 := by rw [← hd, size_of]; exact hl3
      rw [hd] at c
      have HD := Lib.hid hd
      have C := Lib.hid c
      clear hl3 c hd
      have HY2 : Hid (y / 256 = a / 256 ^ (k + 1)) := by show _ = _; rw [HY.out, Nat.div_div_eq_div_mul, Nat.pow_succ]
      rcases Nat.eq_zero_or_pos k with rfl | h0
      · obtain rfl : s = ⟨#[]⟩ := HS.out
        have HE : Hid (d ++ ⟨#[]⟩ = ⟨(post a 1).toArray⟩) := by
          show _ = _
          have hy0 : y = a := by have := HY.out; simpa using this
          rw [← HD.out, hy0]
          simp [post, ba_app]
        go_wp2_with fail
        refine C.out.mono ?_
        rintro e1 w1 ⟨rfl, hb⟩
        have HB1 := Lib.hid (HB.out.trans (hb.mono HB.out.size))
        clear hb
        go_wp2_with fail
        go_roundw
        case rel => exact ⟨1, y / 256, _, by omega, rfl, rfl, by omega, rfl, by rw [HE.out, size_of]; have := post_le a 1 (by omega); omega, HY2, HE, HB1⟩
        case measure => simp [intOf]
      · have HE : Hid (d ++ (⟨#[46]⟩ ++ s) = ⟨(post a (k + 1)).toArray⟩) := by
          show _ = _
          rw [← HD.out, HS.out, show (⟨#[46]⟩ : ByteArray) = ⟨[46].toArray⟩ from rfl, ba_app, ba_app, post, if_neg (by omega), ← HY.out]
          rfl
        have hl : (post a (k + 1)).length ≤ 16 := by have := post_le a (k + 1) (by omega); omega
        have hl2 : (d ++ (⟨#[46]⟩ ++ s)).size ≤ 16 := by rw [HE.out, size_of]; exact hl
        have HL := Lib.hid hl2
        clear hl hl2
        go_wp2_with fail
        refine C.out.mono ?_
        rintro e1 w1 ⟨rfl, hb⟩
        have HB1 := Lib.hid (HB.out.trans (hb.mono HB.out.size))
        clear hb
        go_wp2_with fail
        go_roundw
        case rel => exact ⟨k + 1, y / 256, _, by omega, by go_num, rfl, by omega, rfl, HL.out, HY2, HE, HB1⟩
        case measure => simp [intOf]; omega
    · obtain rfl : k = 4 := by omega
      obtain rfl : s = ⟨(post a 4).toArray⟩ := HS.out
      have HP := Lib.hid (post_four a)
      go_wp2_with fail
      go_ret
      exact ⟨by rw [HP.out]; rfl, HB.out⟩
theorem ref_step (m c : Nat) (hc : c < 256) : ∃ M : Nat, (m * 10 + c + 4294967248) % 4294967296 = M ∧ (M : Int) ≤ 4294967295 ∧ (((m : Int) * 10 + (c : Int)) % 4294967296 - 48) % 4294967296 = (M : Int) := by
  have h : ∀ x : Nat, ∃ M : Nat, x = M := fun x => ⟨x, Eq.refl x⟩
  obtain ⟨M, hM⟩ := h ((m * 10 + c + 4294967248) % 4294967296)
  exact ⟨M, hM, by omega, by omega⟩
set_option maxHeartbeats 1000000 in
theorem rparse_any (s : ByteArray) (w : World) (hs : s.size ≤ maxLen) (ht : Hid (Tab w)) :
    Calls Tryd.prog 38 #[.string s] w fun e w' => e = .returned (.tuple #[.int .u32 (pa s.data.toList : Int), .int .i64 (pe s.data.toList)]) ∧ Below w.heap.size w w' := by
  have HRN : Hid (rn s.data.toList = if s.size < 16 then rv s.data.toList 0 0 else 0) := by
    show _ = _
    rw [rn]
    rfl
  have HS := Lib.hid hs
  unfold maxLen at hs
  go_enter Tryd.func38, Tryd.ntmps38
  go_wp2
  go_loop [4, 5, 6] (fun x n i => ∃ k A m : Nat, k ≤ s.size ∧ i = .int .i64 k ∧ x = .int .u32 A ∧ n = .int .u32 m ∧ (A : Int) ≤ 4294967295 ∧ (m : Int) ≤ 4294967295 ∧ Hid (rn s.data.toList = if s.size < 16 then rv (s.data.toList.drop k) A m else 0) ∧ Hid (16 ≤ s.size → A = 0 ∧ m = 0)) (fun _ _ i => s.size - (intOf i).toNat)
  case atStart => exact ⟨0, 0, 0, by omega, rfl, rfl, rfl, by omega, by omega, HRN, fun _ => ⟨rfl, rfl⟩⟩
  case round =>
    obtain ⟨k, A, m, hk, rfl, rfl, rfl, hA, hm, HV, HZ⟩ := hrel
    by_cases hlt : k < s.size ∧ s.size < 16
    · obtain ⟨hlt, h16⟩ := hlt
      have HD := Lib.hid (drop_at s k hlt)
      by_cases hd : s[k].toNat = 46
      · have t1 : ((s[k].toNat : Int) == 46) = true := by rw [beq_iff_eq]; omega
        have HE : Hid (rn s.data.toList = if s.size < 16 then rv (s.data.toList.drop (k + 1)) (st A m) 0 else 0) := by
          show _ = _
          rw [HV.out, HD.out, rv_dot _ _ _ _ hd]
        have hst : ((A : Int) * 256 % 4294967296 + (m : Int)) % 4294967296 = ((st A m : Nat) : Int) := by unfold st; omega
        have hsl := st_lt A m
        have HS2 : Hid (st A m < 4294967296) := hsl
        have HST := Lib.hid hst
        clear HV HD hd hst hsl
        go_wp2_with fail
        go_round
        case rel => exact ⟨k + 1, st A m, 0, by omega, by go_num, by rw [HST.out], rfl, by have := HS2.out; omega, by omega, HE, fun h => absurd h (by omega)⟩
        case measure => simp [intOf]; omega
      · have t1 : ((s[k].toNat : Int) == 46) = false := by rw [beq_eq_false_iff_ne]; omega
        have hc := s[k].toNat_lt
        obtain ⟨M, hM, hM2, hM3⟩ := ref_step m _ hc
        have HE : Hid (rn s.data.toList = if s.size < 16 then rv (s.data.toList.drop (k + 1)) A M else 0) := by
          show _ = _
          rw [HV.out, HD.out, rv_other _ _ _ _ hd, hM]
        have HM := Lib.hid hM3
        clear HV HD hd hM hM3 hc
        go_wp2_with fail
        go_round
        case rel => exact ⟨k + 1, A, M, by omega, by go_num, rfl, by rw [HM.out], by omega, by omega, HE, fun h => absurd h (by omega)⟩
        case measure => simp [intOf]; omega
    · have hb := rn_lt s.data.toList
      obtain ⟨B, hB⟩ : ∃ B, rn s.data.toList = B := ⟨_, rfl⟩
      have hst : ((A : Int) * 256 % 4294967296 + (m : Int)) % 4294967296 = (B : Int) := by
        have h1 : st A m = B := by
          rw [← hB, HV.out]
          by_cases h16 : s.size < 16
          · rw [if_pos h16, List.drop_eq_nil_of_le (by simp; omega)]
            rfl
          · obtain ⟨rfl, rfl⟩ := HZ.out (by omega)
            rw [if_neg h16]
            rfl
        rw [← h1]
        unfold st
        omega
      have hyes := fun h => rn_yes (l := s.data.toList) h
      have hno := fun h => rn_no (l := s.data.toList) h
      rw [hB] at hyes hno hb
      have hb2 : (B : Int) ≤ 4294967295 := by omega
      clear HV HZ HRN hB hb
      have c := rprint_any B w hb2 ht
      obtain ⟨d, hd⟩ : ∃ d : ByteArray, ⟨(txt B).toArray⟩ = d := ⟨_, rfl⟩
      rw [hd] at c
      have hdl : d.data.toList = txt B := by rw [← hd]
      by_cases hp : txt B = s.data.toList
      · obtain rfl : d = s := by
          apply ByteArray.ext
          apply Array.toList_inj.1
          rw [hdl, hp]
        have HY := Lib.hid (hyes hp)
        have C := Lib.hid c
        clear hyes hno hp c hd hdl
        rcases Nat.lt_or_ge k d.size with h1 | h1
        · have h16 : 16 ≤ (d.size : Int) := by omega
          clear hlt
          go_wp2_with fail
          refine C.out.mono ?_
          rintro e1 w1 ⟨rfl, hb⟩
          have HB := Lib.hid hb
          clear hb
          go_wp2_with fail
          go_ret2
          exact ⟨by rw [HY.out.1, HY.out.2]; rfl, HB.out⟩
        · have t0 : decide (k < d.size) = false := by simp; omega
          clear hlt
          go_wp2_with fail
          refine C.out.mono ?_
          rintro e1 w1 ⟨rfl, hb⟩
          have HB := Lib.hid hb
          clear hb
          go_wp2_with fail
          go_ret2
          exact ⟨by rw [HY.out.1, HY.out.2]; rfl, HB.out⟩
      · have HY := Lib.hid (hno hp)
        have C := Lib.hid c
        have hne := str_ne (fun h => hp (by rw [← h, hdl]) : d ≠ s)
        clear hyes hno hp c hd hdl
        rcases Nat.lt_or_ge k s.size with h1 | h1
        · have h16 : 16 ≤ (s.size : Int) := by omega
          clear hlt
          go_wp2_with fail
          refine C.out.mono ?_
          rintro e1 w1 ⟨rfl, hb⟩
          have HB := Lib.hid hb
          clear hb
          go_wp2_with fail
          go_ret2
          exact ⟨by rw [HY.out.1, HY.out.2]; rfl, HB.out⟩
        · have t0 : decide (k < s.size) = false := by simp; omega
          clear hlt
          go_wp2_with fail
          refine C.out.mono ?_
          rintro e1 w1 ⟨rfl, hb⟩
          have HB := Lib.hid hb
          clear hb
          go_wp2_with fail
          go_ret2
          exact ⟨by rw [HY.out.1, HY.out.2]; rfl, HB.out⟩
end Go.Proofs.YtloaaaddbmcpdaaDoor
