/- The helpers of the laws of package theseuslaw06: few, shown; what the program answers at lengths from 0 to 32. -/
import Derived.Test.YtloaaaddbmcpdaaDoorPfxP
import Derived.Test.YtloaaaddbmcpdaaDoorFrame
namespace Go.Proofs.YtloaaaddbmcpdaaDoor
open Go.RowKit
set_option linter.unusedVariables false
set_option linter.unusedSimpArgs false

/-- a text of 30 bytes at most -/
theorem few6 (s : ByteArray) (hs : s.size ≤ maxLen) : ∃ t : ByteArray, t.size ≤ 30 ∧ Hid (t.data.toList = s.data.toList.take 30) ∧ Hid (∀ w, Calls Tryd.prog 23 #[.string s] w fun e w' => e = .returned (.string t) ∧ w = w') := by
  have hm : (min (s.size : Int) 30).toNat = min s.size 30 := by omega
  unfold maxLen at hs
  refine ⟨s.extract 0 (min (s.size : Int) 30).toNat, by rw [hm]; simp; omega, ?_, fun w => ?_⟩
  · show _ = _
    rw [hm]
    simp only [ByteArray.data_extract, Array.toList_extract, List.extract_eq_take_drop, List.drop_zero, Nat.sub_zero]
    rw [Nat.min_comm]
    by_cases h : 30 ≤ s.size
    · rw [Nat.min_eq_left h]
    · rw [Nat.min_eq_right (by omega), List.take_of_length_le (by simp), List.take_of_length_le (by simp; omega)]
  · clear hm
    go_enter Tryd.func23, Tryd.ntmps23
    go_wp2
    go_ret
    exact ⟨rfl, rfl⟩
theorem text_example : txt 167772160 ++ 47 :: dec 8 = [49, 48, 46, 48, 46, 48, 46, 48, 47, 56] := by
  have h : parseN [49, 48, 46, 48, 46, 48, 46, 48] = some 167772160 := by decide +kernel
  rw [← (parse_some _ _ h).2, dec_small (by omega)]
  rfl
set_option maxRecDepth 10000 in
theorem shown6 (w : World) (ht : Hid (Tab w)) : Calls Tryd.prog 11 #[] w fun e w' => e = .returned (.bool true) ∧ Below w.heap.size w w' := by
  have c1 := ends_any 167772160 (8 : Nat) w (by decide)
  rw [show loN 167772160 (cl ((8 : Nat) : Int)) = 167772160 from rfl, show hiN 167772160 (cl ((8 : Nat) : Int)) = 184549375 from rfl] at c1
  have C2 := Lib.hid (fun w ht => pprint_small 167772160 8 w (by decide) (by decide) ht)
  rw [text_example] at C2
  have C1 := Lib.hid c1
  clear c1
  go_enter Tryd.func11, Tryd.ntmps11
  go_wp2_with fail
  refine C1.out.mono ?_
  rintro e1 w1 ⟨rfl, hb⟩
  have HT := Lib.hid (ht.out.bel hb)
  have HB := Lib.hid hb
  clear hb
  go_wp2_with fail
  refine (C2.out w1 HT).mono ?_
  rintro e1 w2 ⟨rfl, hb⟩
  have HB2 := Lib.hid (HB.out.trans (hb.mono HB.out.size))
  clear hb
  go_wp2_with fail
  go_ret
  exact ⟨rfl, HB2.out⟩
/-! at a length from 0 to 32 -/
theorem mask_k (k : Nat) (w : World) (hk : k ≤ 32) : Calls Tryd.prog 16 #[.int .i64 k] w fun e w' => e = .returned (.int .u32 (mskN k : Int)) ∧ w = w' := by
  have h := mask_any k w
  rw [cl_nat k hk] at h
  exact h
theorem holds_k (a k b : Nat) (w : World) (ha : (a : Int) ≤ 4294967295) (hb : (b : Int) ≤ 4294967295) (hk : k ≤ 32) :
    Calls Tryd.prog 18 #[.int .u32 a, .int .i64 k, .int .u32 b] w fun e w' => e = .returned (.bool (holdB a k b)) ∧ Below w.heap.size w w' := by
  have h := holds_any a b k w ha hb
  rw [cl_nat k hk] at h
  exact h
theorem ends_k (a k : Nat) (w : World) (ha : (a : Int) ≤ 4294967295) (hk : k ≤ 32) :
    Calls Tryd.prog 12 #[.int .u32 a, .int .i64 k] w fun e w' => e = .returned (.tuple #[.int .u32 (loN a k : Int), .int .u32 (hiN a k : Int)]) ∧ Below w.heap.size w w' := by
  have h := ends_any a k w ha
  rw [cl_nat k hk] at h
  exact h
/-- an address's first bits, as the program reckons them -/
theorem and_k (a k : Nat) (ha : (a : Int) ≤ 4294967295) (hk : k ≤ 32) : bits .and .u32 (a : Int) (mskN k : Int) = (loN a k : Int) := by
  have := msk_le k
  rw [u32_and_nat a (mskN k) (by omega) (by omega), and_msk a k (by omega) hk]
end Go.Proofs.YtloaaaddbmcpdaaDoor
