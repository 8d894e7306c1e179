/- The walk of theseuslaw06.PrefixTexts. -/
import Derived.Test.YtloaaaddbmcpdaaDoorL06
namespace Go.Proofs.YtloaaaddbmcpdaaDoor
open Go.RowKit
set_option linter.unusedVariables false
set_option linter.unusedSimpArgs false

theorem pparse_of (s : ByteArray) (l : List UInt8) (x n : Nat) (o : Int) (hl : s.data.toList = l) (h : pfx l = (x, n, o)) (hs : s.size ≤ 1000) (w : World) :
    Calls Tryd.prog 22 #[.string s] w fun e w' => e = .returned (.tuple #[.int .u32 (x : Int), .int .i64 (n : Int), .int .i64 o]) ∧ Below w.heap.size w w' := by
  have c := pparse_any s w (show s.size ≤ maxLen by unfold maxLen; omega)
  rw [hl, h] at c
  exact c
theorem dec_two (k : Nat) (h : k < 100) : (dec k).length ≤ 2 := by
  rcases dec_cases k (by omega) with ⟨_, e⟩ | ⟨_, _, e⟩ | ⟨_, _⟩
  · rw [e]; simp
  · rw [e]; simp
  · omega
set_option maxRecDepth 100000 in
set_option maxHeartbeats 4000000 in
theorem walkPrefixTexts (a0 a1 : Int) (s : ByteArray) (w : World) (ht : Hid (Tab w)) (w0 : (Lit.int .u32 a0).wf = true) (w1 : (Lit.int .u8 a1).wf = true) (w2 : s.size ≤ maxLen) :
    Calls Tryd.prog 6 #[.int .u32 a0, .int .u8 a1, .string s] w fun e w' => e = .returned (.bool true) ∧ Below w.heap.size w w' := by
  obtain ⟨hl0, hh0⟩ := bounds_u32 w0
  obtain ⟨a, rfl⟩ := Int.eq_ofNat_of_zero_le hl0
  have ha : (a : Int) ≤ 4294967295 := by omega
  clear w0 hl0 hh0
  obtain ⟨hl1, hh1⟩ := bounds_u8 w1
  obtain ⟨i, rfl⟩ := Int.eq_ofNat_of_zero_le hl1
  have hi : (i : Int) ≤ 255 := by omega
  clear w1 hl1 hh1
  obtain ⟨k, hkk⟩ : ∃ k : Nat, ((i : Int) % 33) = (k : Int) := ⟨i % 33, by omega⟩
  have hk : (k : Int) ≤ 32 := by omega
  obtain ⟨f, hf, HF, CF⟩ := few6 s w2
  clear HF w2
  have C0 := Lib.hid (fun w => mask_k k w (by omega))
  have hx := and_k a k ha (by omega)
  have hXl : (loN a k : Int) ≤ 4294967295 := by have := lo_le a k; omega
  have hll := lo_lo a k
  have hle := lo_le a k
  generalize loN a k = X at *
  -- the texts
  have mk : ∀ (x n : Nat), n < 100 → ∃ t : ByteArray, t.size ≤ 18 ∧ t.data.toList = txt x ++ 47 :: dec n ∧ (⟨(txt x ++ 47 :: dec n).toArray⟩ : ByteArray) = t := fun x n hn => by
    refine ⟨_, ?_, rfl, rfl⟩
    rw [size_of, List.length_append, List.length_cons]
    have h1 := txt_le x
    have h2 := dec_two n hn
    omega
  obtain ⟨t1, hs1, hl1, he1⟩ := mk X k (by omega)
  obtain ⟨t2, hs2, hl2, he2⟩ := mk a k (by omega)
  obtain ⟨t3, hs3, hl3, he3⟩ := mk X (33 + k) (by omega)
  have P1 := fun w ht => pprint_small X k w hXl (by omega) ht
  have P2 := fun w ht => pprint_small a k w ha (by omega) ht
  have P3 := fun w ht => pprint_small X (33 + k) w hXl (by omega) ht
  rw [he1] at P1
  rw [he2] at P2
  rw [he3, show ((33 + k : Nat) : Int) = 33 + (k : Int) by omega] at P3
  have Q1 := pparse_of t1 _ X k 0 hl1 (by rw [pfx_yes X k (by omega) (by omega), if_pos hll]) (by omega)
  have Q3 := pparse_of t3 _ 0 0 7 hl3 (pfx_high X (33 + k) (by omega)) (by omega)
  have Q4 := pparse_of (t1 ++ ⟨#[32]⟩) (txt X ++ 47 :: dec k ++ [32]) 0 0 7 (by rw [← hl1]; simp) (pfx_behind X k 32 (by decide)) (by rw [ByteArray.size_append]; show _ + 1 ≤ _; omega)
  have Q2 : ∃ (x n : Nat) (o : Int), (∀ w, Calls Tryd.prog 22 #[.string t2] w fun e w' => e = .returned (.tuple #[.int .u32 (x : Int), .int .i64 (n : Int), .int .i64 o]) ∧ Below w.heap.size w w') ∧ ((X = a ∧ o = 0) ∨ (X < a ∧ o = 8)) := by
    have hLL : loN a k = X := by
      have h1 : (loN a k : Int) = (X : Int) := by rw [← and_k a k ha (by omega)]; exact hx
      omega
    have hy := pfx_yes a k (by omega) (by omega)
    rw [hLL] at hy
    by_cases h : X = a
    · rw [if_pos h] at hy
      exact ⟨a, k, 0, pparse_of t2 _ a k 0 hl2 hy (by omega), .inl ⟨h, rfl⟩⟩
    · rw [if_neg h] at hy
      exact ⟨0, 0, 8, pparse_of t2 _ 0 0 8 hl2 hy (by omega), .inr ⟨by omega, rfl⟩⟩
  obtain ⟨x2, n2, o2, Q2, hq2⟩ := Q2
  have told := pfx_told f.data.toList
  have hlt := pfx_lt f.data.toList
  have Q5 := fun w => pparse_any f w (show f.size ≤ maxLen by unfold maxLen; omega)
  generalize (pfx f.data.toList).1 = z at *
  generalize (pfx f.data.toList).2.1 = m at *
  generalize (pfx f.data.toList).2.2 = o at *
  have hz : (z : Int) ≤ 4294967295 := by omega
  have hm : (m : Int) ≤ 32 := by omega
  have P6 := fun w ht => pprint_small z m w hz (by omega) ht
  have K6 := fun w => may_any z (m : Int) w hz
  have tx : ((X : Int) == (X : Int)) = true := by simp
  have tk : ((k : Int) == (k : Int)) = true := by simp
  replace P1 := Lib.hid P1
  replace P2 := Lib.hid P2
  replace P3 := Lib.hid P3
  replace Q1 := Lib.hid Q1
  replace Q2 := Lib.hid Q2
  replace Q3 := Lib.hid Q3
  replace Q4 := Lib.hid Q4
  replace Q5 := Lib.hid Q5
  clear mk hl1 he1 hl2 he2 hl3 he3 hll hlt hs2 hs3
  rcases hq2 with ⟨rfl, rfl⟩ | ⟨hxa, rfl⟩
  · skip
    rcases told with ⟨rfl, hfl, hfm⟩ | ho
    · have hff : (⟨(txt z ++ 47 :: dec m).toArray⟩ : ByteArray) = f := by rw [← hfl]
      rw [hff] at P6
      rw [may_in z m (by omega), if_pos hfm] at K6
      replace P6 := Lib.hid P6
      replace K6 := Lib.hid K6
      clear hff hfl hfm
      clear hle
      go_enter Tryd.func6, Tryd.ntmps6
      go_wp2_with fail
      refine (shown6 w ht).mono ?_
      rintro e1 w1 ⟨rfl, hb⟩
      have HB1 := Lib.hid hb
      have HT1 := Lib.hid (ht.out.bel hb)
      clear hb
      go_wp2_with fail
      refine (C0.out _).mono ?_
      rintro e1 wq ⟨rfl, rfl⟩
      go_wp2_with fail
      refine (P1.out w1 HT1).mono ?_
      rintro e1 w2 ⟨rfl, hb⟩
      have HB2 := Lib.hid (HB1.out.trans (hb.mono HB1.out.size))
      have HT2 := Lib.hid (HT1.out.bel hb)
      clear hb
      go_wp2_with fail
      refine (Q1.out _).mono ?_
      rintro e1 w3 ⟨rfl, hb⟩
      have HB3 := Lib.hid (HB2.out.trans (hb.mono HB2.out.size))
      have HT3 := Lib.hid (HT2.out.bel hb)
      clear hb
      go_wp2_with fail
      refine (P2.out w3 HT3).mono ?_
      rintro e1 w4 ⟨rfl, hb⟩
      have HB4 := Lib.hid (HB3.out.trans (hb.mono HB3.out.size))
      have HT4 := Lib.hid (HT3.out.bel hb)
      clear hb
      go_wp2_with fail
      refine (Q2.out _).mono ?_
      rintro e1 w5 ⟨rfl, hb⟩
      have HB5 := Lib.hid (HB4.out.trans (hb.mono HB4.out.size))
      have HT5 := Lib.hid (HT4.out.bel hb)
      clear hb
      go_wp2_with fail
      refine (P3.out w5 HT5).mono ?_
      rintro e1 w6 ⟨rfl, hb⟩
      have HB6 := Lib.hid (HB5.out.trans (hb.mono HB5.out.size))
      have HT6 := Lib.hid (HT5.out.bel hb)
      clear hb
      go_wp2_with fail
      refine (Q3.out _).mono ?_
      rintro e1 w7 ⟨rfl, hb⟩
      have HB7 := Lib.hid (HB6.out.trans (hb.mono HB6.out.size))
      have HT7 := Lib.hid (HT6.out.bel hb)
      clear hb
      go_wp2_with fail
      refine (P1.out w7 HT7).mono ?_
      rintro e1 w8 ⟨rfl, hb⟩
      have HB8 := Lib.hid (HB7.out.trans (hb.mono HB7.out.size))
      have HT8 := Lib.hid (HT7.out.bel hb)
      clear hb
      go_wp2_with fail
      refine (Q4.out _).mono ?_
      rintro e1 w9 ⟨rfl, hb⟩
      have HB9 := Lib.hid (HB8.out.trans (hb.mono HB8.out.size))
      have HT9 := Lib.hid (HT8.out.bel hb)
      clear hb
      go_wp2_with fail
      refine (CF.out _).mono ?_
      rintro e1 wq ⟨rfl, rfl⟩
      go_wp2_with fail
      refine (Q5.out _).mono ?_
      rintro e1 w10 ⟨rfl, hb⟩
      have HB10 := Lib.hid (HB9.out.trans (hb.mono HB9.out.size))
      have HT10 := Lib.hid (HT9.out.bel hb)
      clear hb
      go_wp2_with fail
      refine (P6.out w10 HT10).mono ?_
      rintro e1 w11 ⟨rfl, hb⟩
      have HB11 := Lib.hid (HB10.out.trans (hb.mono HB10.out.size))
      have HT11 := Lib.hid (HT10.out.bel hb)
      clear hb
      go_wp2_with fail
      refine (CF.out _).mono ?_
      rintro e1 wq ⟨rfl, rfl⟩
      go_wp2_with fail
      refine (K6.out _).mono ?_
      rintro e1 w12 ⟨rfl, hb⟩
      have HB12 := Lib.hid (HB11.out.trans (hb.mono HB11.out.size))
      have HT12 := Lib.hid (HT11.out.bel hb)
      clear hb
      go_wp2_with fail
      go_ret
      exact ⟨rfl, HB12.out⟩
    · have to : (o == 0) = false := by rw [beq_eq_false_iff_ne]; omega
      clear ho P6 K6
      clear hle
      go_enter Tryd.func6, Tryd.ntmps6
      go_wp2_with fail
      refine (shown6 w ht).mono ?_
      rintro e1 w1 ⟨rfl, hb⟩
      have HB1 := Lib.hid hb
      have HT1 := Lib.hid (ht.out.bel hb)
      clear hb
      go_wp2_with fail
      refine (C0.out _).mono ?_
      rintro e1 wq ⟨rfl, rfl⟩
      go_wp2_with fail
      refine (P1.out w1 HT1).mono ?_
      rintro e1 w2 ⟨rfl, hb⟩
      have HB2 := Lib.hid (HB1.out.trans (hb.mono HB1.out.size))
      have HT2 := Lib.hid (HT1.out.bel hb)
      clear hb
      go_wp2_with fail
      refine (Q1.out _).mono ?_
      rintro e1 w3 ⟨rfl, hb⟩
      have HB3 := Lib.hid (HB2.out.trans (hb.mono HB2.out.size))
      have HT3 := Lib.hid (HT2.out.bel hb)
      clear hb
      go_wp2_with fail
      refine (P2.out w3 HT3).mono ?_
      rintro e1 w4 ⟨rfl, hb⟩
      have HB4 := Lib.hid (HB3.out.trans (hb.mono HB3.out.size))
      have HT4 := Lib.hid (HT3.out.bel hb)
      clear hb
      go_wp2_with fail
      refine (Q2.out _).mono ?_
      rintro e1 w5 ⟨rfl, hb⟩
      have HB5 := Lib.hid (HB4.out.trans (hb.mono HB4.out.size))
      have HT5 := Lib.hid (HT4.out.bel hb)
      clear hb
      go_wp2_with fail
      refine (P3.out w5 HT5).mono ?_
      rintro e1 w6 ⟨rfl, hb⟩
      have HB6 := Lib.hid (HB5.out.trans (hb.mono HB5.out.size))
      have HT6 := Lib.hid (HT5.out.bel hb)
      clear hb
      go_wp2_with fail
      refine (Q3.out _).mono ?_
      rintro e1 w7 ⟨rfl, hb⟩
      have HB7 := Lib.hid (HB6.out.trans (hb.mono HB6.out.size))
      have HT7 := Lib.hid (HT6.out.bel hb)
      clear hb
      go_wp2_with fail
      refine (P1.out w7 HT7).mono ?_
      rintro e1 w8 ⟨rfl, hb⟩
      have HB8 := Lib.hid (HB7.out.trans (hb.mono HB7.out.size))
      have HT8 := Lib.hid (HT7.out.bel hb)
      clear hb
      go_wp2_with fail
      refine (Q4.out _).mono ?_
      rintro e1 w9 ⟨rfl, hb⟩
      have HB9 := Lib.hid (HB8.out.trans (hb.mono HB8.out.size))
      have HT9 := Lib.hid (HT8.out.bel hb)
      clear hb
      go_wp2_with fail
      refine (CF.out _).mono ?_
      rintro e1 wq ⟨rfl, rfl⟩
      go_wp2_with fail
      refine (Q5.out _).mono ?_
      rintro e1 w10 ⟨rfl, hb⟩
      have HB10 := Lib.hid (HB9.out.trans (hb.mono HB9.out.size))
      have HT10 := Lib.hid (HT9.out.bel hb)
      clear hb
      go_wp2_with fail
      go_ret
      exact ⟨rfl, HB10.out⟩
  · have ta : ((a : Int) == (X : Int)) = false := by rw [beq_eq_false_iff_ne]; omega
    clear hxa
    rcases told with ⟨rfl, hfl, hfm⟩ | ho
    · have hff : (⟨(txt z ++ 47 :: dec m).toArray⟩ : ByteArray) = f := by rw [← hfl]
      rw [hff] at P6
      rw [may_in z m (by omega), if_pos hfm] at K6
      replace P6 := Lib.hid P6
      replace K6 := Lib.hid K6
      clear hff hfl hfm
      clear hle
      go_enter Tryd.func6, Tryd.ntmps6
      go_wp2_with fail
      refine (shown6 w ht).mono ?_
      rintro e1 w1 ⟨rfl, hb⟩
      have HB1 := Lib.hid hb
      have HT1 := Lib.hid (ht.out.bel hb)
      clear hb
      go_wp2_with fail
      refine (C0.out _).mono ?_
      rintro e1 wq ⟨rfl, rfl⟩
      go_wp2_with fail
      refine (P1.out w1 HT1).mono ?_
      rintro e1 w2 ⟨rfl, hb⟩
      have HB2 := Lib.hid (HB1.out.trans (hb.mono HB1.out.size))
      have HT2 := Lib.hid (HT1.out.bel hb)
      clear hb
      go_wp2_with fail
      refine (Q1.out _).mono ?_
      rintro e1 w3 ⟨rfl, hb⟩
      have HB3 := Lib.hid (HB2.out.trans (hb.mono HB2.out.size))
      have HT3 := Lib.hid (HT2.out.bel hb)
      clear hb
      go_wp2_with fail
      refine (P2.out w3 HT3).mono ?_
      rintro e1 w4 ⟨rfl, hb⟩
      have HB4 := Lib.hid (HB3.out.trans (hb.mono HB3.out.size))
      have HT4 := Lib.hid (HT3.out.bel hb)
      clear hb
      go_wp2_with fail
      refine (Q2.out _).mono ?_
      rintro e1 w5 ⟨rfl, hb⟩
      have HB5 := Lib.hid (HB4.out.trans (hb.mono HB4.out.size))
      have HT5 := Lib.hid (HT4.out.bel hb)
      clear hb
      go_wp2_with fail
      refine (P3.out w5 HT5).mono ?_
      rintro e1 w6 ⟨rfl, hb⟩
      have HB6 := Lib.hid (HB5.out.trans (hb.mono HB5.out.size))
      have HT6 := Lib.hid (HT5.out.bel hb)
      clear hb
      go_wp2_with fail
      refine (Q3.out _).mono ?_
      rintro e1 w7 ⟨rfl, hb⟩
      have HB7 := Lib.hid (HB6.out.trans (hb.mono HB6.out.size))
      have HT7 := Lib.hid (HT6.out.bel hb)
      clear hb
      go_wp2_with fail
      refine (P1.out w7 HT7).mono ?_
      rintro e1 w8 ⟨rfl, hb⟩
      have HB8 := Lib.hid (HB7.out.trans (hb.mono HB7.out.size))
      have HT8 := Lib.hid (HT7.out.bel hb)
      clear hb
      go_wp2_with fail
      refine (Q4.out _).mono ?_
      rintro e1 w9 ⟨rfl, hb⟩
      have HB9 := Lib.hid (HB8.out.trans (hb.mono HB8.out.size))
      have HT9 := Lib.hid (HT8.out.bel hb)
      clear hb
      go_wp2_with fail
      refine (CF.out _).mono ?_
      rintro e1 wq ⟨rfl, rfl⟩
      go_wp2_with fail
      refine (Q5.out _).mono ?_
      rintro e1 w10 ⟨rfl, hb⟩
      have HB10 := Lib.hid (HB9.out.trans (hb.mono HB9.out.size))
      have HT10 := Lib.hid (HT9.out.bel hb)
      clear hb
      go_wp2_with fail
      refine (P6.out w10 HT10).mono ?_
      rintro e1 w11 ⟨rfl, hb⟩
      have HB11 := Lib.hid (HB10.out.trans (hb.mono HB10.out.size))
      have HT11 := Lib.hid (HT10.out.bel hb)
      clear hb
      go_wp2_with fail
      refine (CF.out _).mono ?_
      rintro e1 wq ⟨rfl, rfl⟩
      go_wp2_with fail
      refine (K6.out _).mono ?_
      rintro e1 w12 ⟨rfl, hb⟩
      have HB12 := Lib.hid (HB11.out.trans (hb.mono HB11.out.size))
      have HT12 := Lib.hid (HT11.out.bel hb)
      clear hb
      go_wp2_with fail
      go_ret
      exact ⟨rfl, HB12.out⟩
    · have to : (o == 0) = false := by rw [beq_eq_false_iff_ne]; omega
      clear ho P6 K6
      clear hle
      go_enter Tryd.func6, Tryd.ntmps6
      go_wp2_with fail
      refine (shown6 w ht).mono ?_
      rintro e1 w1 ⟨rfl, hb⟩
      have HB1 := Lib.hid hb
      have HT1 := Lib.hid (ht.out.bel hb)
      clear hb
      go_wp2_with fail
      refine (C0.out _).mono ?_
      rintro e1 wq ⟨rfl, rfl⟩
      go_wp2_with fail
      refine (P1.out w1 HT1).mono ?_
      rintro e1 w2 ⟨rfl, hb⟩
      have HB2 := Lib.hid (HB1.out.trans (hb.mono HB1.out.size))
      have HT2 := Lib.hid (HT1.out.bel hb)
      clear hb
      go_wp2_with fail
      refine (Q1.out _).mono ?_
      rintro e1 w3 ⟨rfl, hb⟩
      have HB3 := Lib.hid (HB2.out.trans (hb.mono HB2.out.size))
      have HT3 := Lib.hid (HT2.out.bel hb)
      clear hb
      go_wp2_with fail
      refine (P2.out w3 HT3).mono ?_
      rintro e1 w4 ⟨rfl, hb⟩
      have HB4 := Lib.hid (HB3.out.trans (hb.mono HB3.out.size))
      have HT4 := Lib.hid (HT3.out.bel hb)
      clear hb
      go_wp2_with fail
      refine (Q2.out _).mono ?_
      rintro e1 w5 ⟨rfl, hb⟩
      have HB5 := Lib.hid (HB4.out.trans (hb.mono HB4.out.size))
      have HT5 := Lib.hid (HT4.out.bel hb)
      clear hb
      go_wp2_with fail
      refine (P3.out w5 HT5).mono ?_
      rintro e1 w6 ⟨rfl, hb⟩
      have HB6 := Lib.hid (HB5.out.trans (hb.mono HB5.out.size))
      have HT6 := Lib.hid (HT5.out.bel hb)
      clear hb
      go_wp2_with fail
      refine (Q3.out _).mono ?_
      rintro e1 w7 ⟨rfl, hb⟩
      have HB7 := Lib.hid (HB6.out.trans (hb.mono HB6.out.size))
      have HT7 := Lib.hid (HT6.out.bel hb)
      clear hb
      go_wp2_with fail
      refine (P1.out w7 HT7).mono ?_
      rintro e1 w8 ⟨rfl, hb⟩
      have HB8 := Lib.hid (HB7.out.trans (hb.mono HB7.out.size))
      have HT8 := Lib.hid (HT7.out.bel hb)
      clear hb
      go_wp2_with fail
      refine (Q4.out _).mono ?_
      rintro e1 w9 ⟨rfl, hb⟩
      have HB9 := Lib.hid (HB8.out.trans (hb.mono HB8.out.size))
      have HT9 := Lib.hid (HT8.out.bel hb)
      clear hb
      go_wp2_with fail
      refine (CF.out _).mono ?_
      rintro e1 wq ⟨rfl, rfl⟩
      go_wp2_with fail
      refine (Q5.out _).mono ?_
      rintro e1 w10 ⟨rfl, hb⟩
      have HB10 := Lib.hid (HB9.out.trans (hb.mono HB9.out.size))
      have HT10 := Lib.hid (HT9.out.bel hb)
      clear hb
      go_wp2_with fail
      go_ret
      exact ⟨rfl, HB10.out⟩
end Go.Proofs.YtloaaaddbmcpdaaDoor
