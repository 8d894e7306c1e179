/- The helpers of the laws of package theseuslaw05: few, shown, decimal. -/
import Derived.Test.YtjloiljiighghaaDoorParse
import Derived.Test.YtjloiljiighghaaDoorFrame
namespace Go.Proofs.YtjloiljiighghaaDoor
open Go.RowKit
set_option linter.unusedVariables false
set_option linter.unusedSimpArgs false

/-- a text of 30 bytes at most -/
theorem few5 (s : ByteArray) (hs : s.size ≤ maxLen) : ∃ t : ByteArray, t.size ≤ 30 ∧ Hid (t.data.toList = s.data.toList.take 30) ∧ Hid (∀ w, Calls Tryd.prog 10 #[.string s] w fun e w' => e = .returned (.string t) ∧ w = w') := by
  have hm : (min (s.size : Int) 30).toNat = min s.size 30 := by omega
  unfold maxLen at hs
  refine ⟨s.extract 0 (min (s.size : Int) 30).toNat, by rw [hm]; simp; omega, ?_, fun w => ?_⟩
  · show _ = _
    rw [hm]
    simp only [ByteArray.data_extract, Array.toList_extract, List.extract_eq_take_drop, List.drop_zero, Nat.sub_zero]
    rw [Nat.min_comm]
    by_cases h : 30 ≤ s.size
    · rw [Nat.min_eq_left h]
    · rw [Nat.min_eq_right (by omega), List.take_of_length_le (by simp), List.take_of_length_le (by simp; omega)]
  · clear hm
    go_enter Tryd.func10, Tryd.ntmps10
    go_wp2
    go_ret
    exact ⟨rfl, rfl⟩
theorem parse_example : parseN [49, 48, 46, 48, 46, 49, 46, 50] = some 167772418 := by decide +kernel
theorem txt_example : txt 167772418 = [49, 48, 46, 48, 46, 49, 46, 50] := (parse_some _ _ parse_example).2.symm
theorem shown5 (w : World) (ht : Hid (Tab w)) : Calls Tryd.prog 8 #[] w fun e w' => e = .returned (.bool true) ∧ Below w.heap.size w w' := by
  have c1 := parse_any ⟨#[49, 48, 46, 48, 46, 49, 46, 50]⟩ w (by decide)
  rw [show pa (⟨#[49, 48, 46, 48, 46, 49, 46, 50]⟩ : ByteArray).data.toList = 167772418 by show pa [49, 48, 46, 48, 46, 49, 46, 50] = _; unfold pa; rw [parse_example]; rfl,
    show pe (⟨#[49, 48, 46, 48, 46, 49, 46, 50]⟩ : ByteArray).data.toList = 0 by show pe [49, 48, 46, 48, 46, 49, 46, 50] = _; unfold pe; rw [parse_example]; rfl] at c1
  have c2 := print_any 167772418 w (by decide) ht
  rw [txt_example] at c2
  have C1 := Lib.hid c1
  have C2 := Lib.hid c2
  clear c1 c2
  go_enter Tryd.func8, Tryd.ntmps8
  go_wp2_with fail
  refine C1.out.mono ?_
  rintro e1 w1 ⟨rfl, rfl⟩
  go_wp2_with fail
  refine C2.out.mono ?_
  rintro e1 w1 ⟨rfl, hb⟩
  have HB := Lib.hid hb
  clear hb
  go_wp2_with fail
  go_ret
  exact ⟨rfl, HB.out⟩
/-- a digit's letter, kept closed -/
def chD (d : Nat) : UInt8 := UInt8.ofNat (48 + d)
theorem digit_text : ∀ d : Fin 10, (⟨#[48, 49, 50, 51, 52, 53, 54, 55, 56, 57]⟩ : ByteArray).extract d.val (d.val + 1) = ⟨#[chD d.val]⟩ := by decide +kernel
/-- the digits ahead of those that were put -/
def ahead (m : Nat) : List UInt8 := if m = 0 then [] else dec m
theorem ahead_step (m : Nat) (h : 0 < m) : ahead m = ahead (m / 10) ++ [chD (m % 10)] := by
  unfold ahead
  rw [if_neg (by omega)]
  by_cases h1 : m < 10
  · rw [if_pos (by omega), dec_small h1, Nat.mod_eq_of_lt h1]
    rfl
  · rw [if_neg (by omega), dec_big h1]
    rfl
theorem dec_step (n : Nat) : dec n = ahead (n / 10) ++ [chD (n % 10)] := by
  by_cases h : n = 0
  · subst h
    rw [dec_small (by omega)]
    rfl
  · rw [← ahead_step n (by omega), ahead, if_neg h]
theorem dec_le7 (n : Nat) (h : n < 10000000) : (dec n).length ≤ 7 := by
  have key : ∀ k n, n < 10 ^ (k + 1) → (dec n).length ≤ k + 1 := by
    intro k
    induction k with
    | zero => intro n h; rw [dec_small (by simpa using h)]; simp
    | succ k ih =>
      intro n h
      by_cases h1 : n < 10
      · rw [dec_small h1]; simp
      · rw [dec_big h1, List.length_append]
        have := ih (n / 10) (by rw [Nat.pow_succ] at h; omega)
        simp
        omega
  exact key 6 n h
set_option maxHeartbeats 1000000 in
theorem decimal_any (n : Nat) (w : World) (hn : (n : Int) ≤ 100000) :
    Calls Tryd.prog 18 #[.int .i64 n] w fun e w' => e = .returned (.string ⟨(dec n).toArray⟩) ∧ w = w' := by
  have dt := digit_text ⟨n % 10, Nat.mod_lt _ (by omega)⟩
  have HD := Lib.hid (dec_step n)
  have HL := Lib.hid (dec_le7 n (by omega))
  go_enter Tryd.func18, Tryd.ntmps18
  go_wp2
  clear dt
  go_loop [0, 4] (fun x t => ∃ (m : Nat) (o : ByteArray), x = .int .i64 m ∧ (m : Int) ≤ 100000 ∧ t = .string o ∧ o.size ≤ 7 ∧ Hid (dec n = ahead m ++ o.data.toList)) (fun x _ => (intOf x).toNat)
  case atStart => exact ⟨n / 10, ⟨#[chD (n % 10)]⟩, rfl, by omega, rfl, (by decide : (1 : Nat) ≤ 7), HD⟩
  case round =>
    obtain ⟨m, o, rfl, hm, rfl, ho, HO⟩ := hrel
    by_cases h0 : 0 < m
    · have dt := digit_text ⟨m % 10, Nat.mod_lt _ (by omega)⟩
      have HN : Hid (dec n = ahead (m / 10) ++ ((⟨#[chD (m % 10)]⟩ : ByteArray) ++ o).data.toList) := by
        show _ = _
        rw [HO.out, ahead_step m h0]
        simp
      have hl : ((⟨#[chD (m % 10)]⟩ : ByteArray) ++ o).size ≤ 7 := by
        have h1 := HL.out
        rw [HN.out, List.length_append] at h1
        have h2 : (((⟨#[chD (m % 10)]⟩ : ByteArray) ++ o).data.toList).length = ((⟨#[chD (m % 10)]⟩ : ByteArray) ++ o).size := rfl
        omega
      have HL2 := Lib.hid hl
      clear hl
      go_wp2
      go_round
      case rel => exact ⟨m / 10, _, rfl, by omega, rfl, HL2.out, HN⟩
      case measure => simp [intOf]; omega
    · obtain rfl : m = 0 := by omega
      have HE : Hid (o = ⟨(dec n).toArray⟩) := by
        show _ = _
        rw [HO.out]
        apply ByteArray.ext
        simp [ahead]
      go_wp2
      go_ret
      exact ⟨by rw [HE.out]; rfl, rfl⟩
end Go.Proofs.YtjloiljiighghaaDoor
