/- Contracts of package addr: Bit, Common, digitAt, Print. -/
import Derived.Test.YtloaaaddbmcpdaaDoorPow
import Derived.Laws.BitsAllLaws
namespace Go.Proofs.YtloaaaddbmcpdaaDoor
open Go.RowKit
set_option linter.unusedVariables false
set_option linter.unusedSimpArgs false

theorem drop_at (s : ByteArray) (k : Nat) (h : k < s.size) : s.data.toList.drop k = s[k] :: s.data.toList.drop (k + 1) := by
  rw [List.drop_eq_getElem_cons (by simpa using h)]
  rfl
theorem str_ne {d s : ByteArray} (h : d ≠ s) : (d.toList == s.toList) = false := by
  rw [ByteArray.toList_eq, ByteArray.toList_eq, beq_eq_false_iff_ne]
  exact fun e => h (ByteArray.ext (Array.toList_inj.1 e))
/-- bit i of a, the highest one being bit 0 -/
def bitN (a i : Nat) : Nat := a / 2 ^ (31 - i) % 2
def bitF (a : Nat) (i : Int) : Nat := if 0 ≤ i ∧ i ≤ 31 then bitN a i.toNat else 0
theorem u32_low (x : Nat) (h : x ≤ 4294967295) : bits .and .u32 (x : Int) 1 = ((x % 2 : Nat) : Int) := by
  have := u32_and_nat x 1 (by omega) (by omega)
  rw [show (1 : Nat) = 2 ^ 1 - 1 from rfl, Nat.and_two_pow_sub_one_eq_mod] at this
  exact this
theorem u32_byte (x : Nat) (h : x ≤ 4294967295) : bits .and .u32 (x : Int) 255 = ((x % 256 : Nat) : Int) := by
  have := u32_and_nat x 255 (by omega) (by omega)
  rw [show (255 : Nat) = 2 ^ 8 - 1 from rfl, Nat.and_two_pow_sub_one_eq_mod] at this
  exact this
theorem bit_out (a : Nat) (i : Int) (w : World) (ha : (a : Int) ≤ 4294967295) (h : ¬ (0 ≤ i ∧ i ≤ 31)) :
    Calls Tryd.prog 28 #[.int .u32 a, .int .i64 i] w fun e w' => e = .returned (.int .i64 0) ∧ w = w' := by
  by_cases h1 : i < 0
  · clear h
    go_enter Tryd.func28, Tryd.ntmps28
    go_wp2
    go_ret
    exact ⟨rfl, rfl⟩
  · have h2 : 32 ≤ i := by omega
    have h3 : 0 ≤ i := by omega
    clear h
    go_enter Tryd.func28, Tryd.ntmps28
    go_wp2
    go_ret
    exact ⟨rfl, rfl⟩
theorem bit_in (a i : Nat) (w : World) (ha : (a : Int) ≤ 4294967295) (hi : (i : Int) ≤ 31) :
    Calls Tryd.prog 28 #[.int .u32 a, .int .i64 i] w fun e w' => e = .returned (.int .i64 (bitN a i : Int)) ∧ w = w' := by
  have h0 : 0 ≤ (i : Int) := by omega
  obtain ⟨j, hj⟩ : ∃ j : Nat, (31 : Int) - (i : Int) = (j : Int) := ⟨31 - i, by omega⟩
  have hj2 : j = 31 - i := by omega
  go_enter Tryd.func28, Tryd.ntmps28
  go_wp2
  go_ret
  refine ⟨?_, rfl⟩
  have e : (a : Int) / 2 ^ (31 - i) = ((a / 2 ^ (31 - i) : Nat) : Int) := by rw [Int.natCast_ediv, Int.natCast_pow]; rfl
  have l : a / 2 ^ (31 - i) ≤ 4294967295 := Nat.le_trans (Nat.div_le_self _ _) (by omega)
  rw [e, u32_low _ l]
  show Ending.returned (.int .i64 (wrap64 ((bitN a i : Nat) : Int))) = _
  have l2 : bitN a i < 2 := Nat.mod_lt _ (by omega)
  rw [show wrap64 ((bitN a i : Nat) : Int) = (bitN a i : Int) by unfold wrap64; omega]
theorem bit_any (a : Nat) (i : Int) (w : World) (ha : (a : Int) ≤ 4294967295) :
    Calls Tryd.prog 28 #[.int .u32 a, .int .i64 i] w fun e w' => e = .returned (.int .i64 (bitF a i : Int)) ∧ w = w' := by
  by_cases h : 0 ≤ i ∧ i ≤ 31
  · rw [bitF, if_pos h]
    obtain ⟨n, rfl⟩ := Int.eq_ofNat_of_zero_le h.1
    rw [Int.toNat_natCast]
    exact bit_in a n w ha h.2
  · rw [bitF, if_neg h]
    exact bit_out a i w ha h
theorem common_any (a b : Nat) (w : World) (ha : (a : Int) ≤ 4294967295) (hb : (b : Int) ≤ 4294967295) :
    Calls Tryd.prog 27 #[.int .u32 a, .int .u32 b] w fun e w' => e = .returned (.int .i64 (com a b : Int)) ∧ w = w' := by
  have e1 := u32_xor_nat a b (by omega) (by omega)
  have l1 : a ^^^ b < 4294967296 := Nat.xor_lt_two_pow (n := 32) (by omega) (by omega)
  unfold com
  generalize a ^^^ b = x at *
  have hx : (x : Int) ≤ 4294967295 := by omega
  go_enter Tryd.func27, Tryd.ntmps27
  go_wp2_with fail
  refine (lz_any x w hx).mono ?_
  rintro e w' ⟨rfl, rfl⟩
  go_wp2_with fail
  go_ret
  exact ⟨rfl, rfl⟩
theorem digit_none (s : ByteArray) (k : Nat) (w : World) (hs : s.size ≤ maxLen) (hk : k = s.size) :
    Calls Tryd.prog 47 #[.string s, .int .i64 k] w fun e w' => e = .returned (.bool false) ∧ w = w' := by
  unfold maxLen at hs
  have h1 : decide (k < s.size) = false := by simp; omega
  clear hk
  go_enter Tryd.func47, Tryd.ntmps47
  go_wp2
  go_ret
  exact ⟨rfl, rfl⟩
theorem digit_at (s : ByteArray) (k : Nat) (w : World) (hs : s.size ≤ maxLen) (hk : k < s.size) :
    Calls Tryd.prog 47 #[.string s, .int .i64 k] w fun e w' => e = .returned (.bool (isDig s[k])) ∧ w = w' := by
  unfold maxLen at hs
  by_cases h1 : 48 ≤ s[k].toNat
  · by_cases h2 : s[k].toNat ≤ 57
    · have e : isDig s[k] = true := by rw [isDig_iff]; omega
      have t : decide ((s[k].toNat : Int) ≤ 57) = true := by simp; omega
      rw [e]
      clear e
      go_enter Tryd.func47, Tryd.ntmps47
      go_wp2
      go_ret
      exact ⟨rfl, rfl⟩
    · have e : isDig s[k] = false := by rw [← Bool.not_eq_true, isDig_iff]; omega
      have t : decide ((s[k].toNat : Int) ≤ 57) = false := by simp; omega
      rw [e]
      clear e
      go_enter Tryd.func47, Tryd.ntmps47
      go_wp2
      go_ret
      exact ⟨rfl, rfl⟩
  · have e : isDig s[k] = false := by rw [← Bool.not_eq_true, isDig_iff]; omega
    rw [e]
    clear e
    go_enter Tryd.func47, Tryd.ntmps47
    go_wp2
    go_ret
    exact ⟨rfl, rfl⟩
/-! the bytes of an address, in the program's own words -/
theorem byte_of (a k : Nat) (d : Int) (ha : (a : Int) ≤ 4294967295) (hd : d = ((256 ^ (3 - k) : Nat) : Int)) : bits .and .u32 ((a : Int) / d) 255 = ((byt a k : Nat) : Int) := by
  subst hd
  have l : a / 256 ^ (3 - k) ≤ 4294967295 := Nat.le_trans (Nat.div_le_self _ _) (by omega)
  rw [← Int.natCast_ediv, u32_byte _ l]
  rfl
theorem string_of {w : World} {base n : Nat} {v : Value} {l : List UInt8} (h : w.ownsRow base 5 1 v n (vals l)) : (convert 61 9 v).run Tryd.prog w = .ok (.string ⟨l.toArray⟩) w :=
  run_string_isb0 (P := Tryd.prog) w 61 5 9 Tryd.underlying61 Tryd.underlying5 Tryd.underlying9 (IsB.of_own h)
set_option maxHeartbeats 1000000 in
theorem print_any (a : Nat) (w : World) (ha : (a : Int) ≤ 4294967295) (ht : Hid (Tab w)) :
    Calls Tryd.prog 31 #[.int .u32 a] w fun e w' => e = .returned (.string ⟨(txt a).toArray⟩) ∧ Below w.heap.size w w' := by
  obtain ⟨i0, hi0, hz0, hz1, hz2⟩ := info_parts byte_info
  go_enter Tryd.func31, Tryd.ntmps31
  go_wp2
  go_loopw [3, 4] (fun t i wr => ∃ (k n : Nat) (z : Int), k ≤ 4 ∧ i = .int .i64 z ∧ (n : Int) ≤ 16 ∧ Hid (z = 24 - 8 * (k : Int)) ∧ Hid (n = (pre a k).length) ∧ Hid (wr.ownsRow w.heap.size 5 1 t n (vals (pre a k))) ∧ Hid (Below w.heap.size w wr)) (fun _ i _ => (intOf i + 8).toNat)
  case atStart => exact ⟨0, 0, 24, by omega, rfl, by omega, rfl, rfl, World.ownsRow_nil _ _ _ _, Below.refl _ _⟩
  case round =>
    obtain ⟨k, n, z, hk, rfl, hn, HZ, HN, HO, HB⟩ := hrel
    have HT := Lib.hid (ht.out.bel HB.out)
    have HBs := Lib.hid HB.out.size
    rcases (by omega : k = 0 ∨ k = 1 ∨ k = 2 ∨ k = 3 ∨ k = 4) with rfl | rfl | rfl | rfl | rfl
    · obtain rfl : z = 24 := HZ.out
      have e := byte_of a 0 16777216 ha rfl
      have l := byt_lt a 0
      have l3 := dec_le3 (byt a 0) l
      have hp := pre_le a 0
      have hn1 : (n : Int) ≤ 0 := by have := HN.out; omega
      have HP : Hid (pre a 1 = pre a 0 ++ dec (byt a 0) ++ [46]) := rfl
      clear hp
      go_wp2_with fail
      refine (appu_any w.heap.size n (byt a 0) _ _ wr (by omega) HO HBs (by omega) HT).mono ?_
      rintro e1 w1 ⟨v1, rfl, ho, hb⟩
      have HO1 := Lib.hid ho
      have HB1 : Hid (Below w.heap.size w w1) := HB.out.trans hb
      have HS1 := Lib.hid HB1.out.size
      have HL1 : Hid ((dec (byt a 0)).length ≤ 3) := l3
      clear ho hb l3
      obtain ⟨m, hm⟩ : ∃ m, n + (dec (byt a 0)).length = m := ⟨_, rfl⟩
      rw [hm] at HO1
      have HM : Hid (n + (dec (byt a 0)).length = m) := hm
      have hm2 : (m : Int) ≤ 3 := by have := HL1.out; omega
      clear hm
      have HD : Hid (Has (w1.alloc (.cells (vals [46]).toArray 5)) (some ⟨w1.heap.size, 0, none⟩) (vals [46])) := Has.new _ _ _ _
      go_wp2_with (at_builtin; refine wpList_append_has _ rfl (.tmp 18) (.tmp 19) _ rfl w.heap.size 5 i0 (.int .u8 0) 1 Tryd.underlying61 hi0 hz0 hz1 hz2 rfl v1 m _ rfl (HO1.out.alloc _) _ 1 _ (vals [46]) rfl rfl HD.out (vals_one _) (by unfold maxLen; omega) (by omega) (by have := HS1.out; simp only [World.size_alloc]; omega) ?_; intro v2 w2 hown2 hgrow2 _; have HO2 := Lib.hid hown2; have HG2 := Lib.hid hgrow2; clear hown2 hgrow2)
      go_roundw
      case rel =>
        refine ⟨1, m + 1, 16, by omega, rfl, by omega, rfl, ?_, ?_, ?_⟩
        · show _ = _
          rw [HP.out, ← HM.out, HN.out]
          simp [Nat.add_assoc]
        · show World.ownsRow _ _ _ _ _ _ _
          rw [HP.out, vals_append, vals_append]
          exact HO2.out
        · exact (HB1.out.alloc HS1.out _).grown HG2.out (by have := HS1.out; simp only [World.size_alloc]; omega) (fun q hq => (HO1.out.lt q hq).1)
      case measure => simp [intOf]
    · obtain rfl : z = 16 := HZ.out
      have e := byte_of a 1 65536 ha rfl
      have l := byt_lt a 1
      have l3 := dec_le3 (byt a 1) l
      have hp := pre_le a 1
      have hn1 : (n : Int) ≤ 4 := by have := HN.out; omega
      have HP : Hid (pre a 2 = pre a 1 ++ dec (byt a 1) ++ [46]) := rfl
      clear hp
      go_wp2_with fail
      refine (appu_any w.heap.size n (byt a 1) _ _ wr (by omega) HO HBs (by omega) HT).mono ?_
      rintro e1 w1 ⟨v1, rfl, ho, hb⟩
      have HO1 := Lib.hid ho
      have HB1 : Hid (Below w.heap.size w w1) := HB.out.trans hb
      have HS1 := Lib.hid HB1.out.size
      have HL1 : Hid ((dec (byt a 1)).length ≤ 3) := l3
      clear ho hb l3
      obtain ⟨m, hm⟩ : ∃ m, n + (dec (byt a 1)).length = m := ⟨_, rfl⟩
      rw [hm] at HO1
      have HM : Hid (n + (dec (byt a 1)).length = m) := hm
      have hm2 : (m : Int) ≤ 7 := by have := HL1.out; omega
      clear hm
      have HD : Hid (Has (w1.alloc (.cells (vals [46]).toArray 5)) (some ⟨w1.heap.size, 0, none⟩) (vals [46])) := Has.new _ _ _ _
      go_wp2_with (at_builtin; refine wpList_append_has _ rfl (.tmp 18) (.tmp 19) _ rfl w.heap.size 5 i0 (.int .u8 0) 1 Tryd.underlying61 hi0 hz0 hz1 hz2 rfl v1 m _ rfl (HO1.out.alloc _) _ 1 _ (vals [46]) rfl rfl HD.out (vals_one _) (by unfold maxLen; omega) (by omega) (by have := HS1.out; simp only [World.size_alloc]; omega) ?_; intro v2 w2 hown2 hgrow2 _; have HO2 := Lib.hid hown2; have HG2 := Lib.hid hgrow2; clear hown2 hgrow2)
      go_roundw
      case rel =>
        refine ⟨2, m + 1, 8, by omega, rfl, by omega, rfl, ?_, ?_, ?_⟩
        · show _ = _
          rw [HP.out, ← HM.out, HN.out]
          simp [Nat.add_assoc]
        · show World.ownsRow _ _ _ _ _ _ _
          rw [HP.out, vals_append, vals_append]
          exact HO2.out
        · exact (HB1.out.alloc HS1.out _).grown HG2.out (by have := HS1.out; simp only [World.size_alloc]; omega) (fun q hq => (HO1.out.lt q hq).1)
      case measure => simp [intOf]
    · obtain rfl : z = 8 := HZ.out
      have e := byte_of a 2 256 ha rfl
      have l := byt_lt a 2
      have l3 := dec_le3 (byt a 2) l
      have hp := pre_le a 2
      have hn1 : (n : Int) ≤ 8 := by have := HN.out; omega
      have HP : Hid (pre a 3 = pre a 2 ++ dec (byt a 2) ++ [46]) := rfl
      clear hp
      go_wp2_with fail
      refine (appu_any w.heap.size n (byt a 2) _ _ wr (by omega) HO HBs (by omega) HT).mono ?_
      rintro e1 w1 ⟨v1, rfl, ho, hb⟩
      have HO1 := Lib.hid ho
      have HB1 : Hid (Below w.heap.size w w1) := HB.out.trans hb
      have HS1 := Lib.hid HB1.out.size
      have HL1 : Hid ((dec (byt a 2)).length ≤ 3) := l3
      clear ho hb l3
      obtain ⟨m, hm⟩ : ∃ m, n + (dec (byt a 2)).length = m := ⟨_, rfl⟩
      rw [hm] at HO1
      have HM : Hid (n + (dec (byt a 2)).length = m) := hm
      have hm2 : (m : Int) ≤ 11 := by have := HL1.out; omega
      clear hm
      have HD : Hid (Has (w1.alloc (.cells (vals [46]).toArray 5)) (some ⟨w1.heap.size, 0, none⟩) (vals [46])) := Has.new _ _ _ _
      go_wp2_with (at_builtin; refine wpList_append_has _ rfl (.tmp 18) (.tmp 19) _ rfl w.heap.size 5 i0 (.int .u8 0) 1 Tryd.underlying61 hi0 hz0 hz1 hz2 rfl v1 m _ rfl (HO1.out.alloc _) _ 1 _ (vals [46]) rfl rfl HD.out (vals_one _) (by unfold maxLen; omega) (by omega) (by have := HS1.out; simp only [World.size_alloc]; omega) ?_; intro v2 w2 hown2 hgrow2 _; have HO2 := Lib.hid hown2; have HG2 := Lib.hid hgrow2; clear hown2 hgrow2)
      go_roundw
      case rel =>
        refine ⟨3, m + 1, 0, by omega, rfl, by omega, rfl, ?_, ?_, ?_⟩
        · show _ = _
          rw [HP.out, ← HM.out, HN.out]
          simp [Nat.add_assoc]
        · show World.ownsRow _ _ _ _ _ _ _
          rw [HP.out, vals_append, vals_append]
          exact HO2.out
        · exact (HB1.out.alloc HS1.out _).grown HG2.out (by have := HS1.out; simp only [World.size_alloc]; omega) (fun q hq => (HO1.out.lt q hq).1)
      case measure => simp [intOf]
    · obtain rfl : z = 0 := HZ.out
      have e : bits .and .u32 (a : Int) 255 = ((byt a 3 : Nat) : Int) := by have := byte_of a 3 1 ha rfl; rw [Int.ediv_one] at this; exact this
      have l := byt_lt a 3
      have l3 := dec_le3 (byt a 3) l
      have hp := pre_le a 3
      have hn1 : (n : Int) ≤ 12 := by have := HN.out; omega
      have HP : Hid (pre a 4 = pre a 3 ++ dec (byt a 3) ++ []) := rfl
      clear hp
      go_wp2_with fail
      refine (appu_any w.heap.size n (byt a 3) _ _ wr (by omega) HO HBs (by omega) HT).mono ?_
      rintro e1 w1 ⟨v1, rfl, ho, hb⟩
      have HO1 := Lib.hid ho
      have HB1 : Hid (Below w.heap.size w w1) := HB.out.trans hb
      have HS1 := Lib.hid HB1.out.size
      have HL1 : Hid ((dec (byt a 3)).length ≤ 3) := l3
      clear ho hb l3
      go_wp2_with fail
      go_roundw
      case rel =>
        refine ⟨4, n + (dec (byt a 3)).length, -8, by omega, rfl, by have := HL1.out; omega, rfl, ?_, ?_, HB1⟩
        · show _ = _
          rw [HP.out, HN.out]
          simp
        · show World.ownsRow _ _ _ _ _ _ _
          rw [HP.out, List.append_nil, vals_append]
          exact HO1.out
      case measure => simp [intOf]
    · obtain rfl : z = -8 := HZ.out
      have hc := string_of HO.out
      rw [pre_four] at hc
      go_wp2_with fail
      go_ret
      exact ⟨rfl, HB.out⟩
end Go.Proofs.YtloaaaddbmcpdaaDoor
