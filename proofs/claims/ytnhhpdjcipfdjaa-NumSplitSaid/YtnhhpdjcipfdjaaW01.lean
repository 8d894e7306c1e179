/- The walks of the laws of package theseuslaw01. -/
import Derived.Test.YtnhhpdjcipfdjaaL01
import Derived.Test.YtnhhpdjcipfdjaaFrame
namespace Go.Proofs.Ytnhhpdjcipfdjaa
open Go.RowKit
set_option linter.unusedVariables false
set_option linter.unusedSimpArgs false

theorem walkNumSplit (a0 a1 : Int) (w : World) (w0 : (Lit.int .u32 a0).wf = true) (w1 : (Lit.int .u8 a1).wf = true) :
    Calls Try.prog 7 #[.int .u32 a0, .int .u8 a1] w fun e w' => e = .returned (.bool true) ∧ Below w.heap.size w w' := by
  obtain ⟨hl0, hh0⟩ := bounds_u32 w0
  obtain ⟨hl1, hh1⟩ := bounds_u8 w1
  clear w0 w1
  obtain ⟨m, rfl⟩ := Int.eq_ofNat_of_zero_le hl0
  have hm : m < 256 ^ 4 := by omega
  have hs1 := Lib.hid (val_split m 4 1 (by omega) hm)
  have hs2 := Lib.hid (val_split m 4 2 (by omega) hm)
  have hs3 := Lib.hid (val_split m 4 3 (by omega) hm)
  have HM := Lib.hid hm
  clear hm
  rcases (by omega : a1 % 3 = 0 ∨ a1 % 3 = 1 ∨ a1 % 3 = 2) with hk | hk | hk
  · go_enter Try.func7, Try.ntmps7
    go_wp2_with fail
    refine (shown1 _).mono ?_
    rintro e w1 ⟨rfl, hb1⟩
    have HB1 := Lib.hid hb1
    clear hb1
    go_wp2_with fail
    refine (put_ok _ _ _ (by omega) (by omega) hl0 (by simpa using HM.out)).mono ?_
    rintro e w' ⟨rfl, rfl⟩
    rw [show (4 : Int).toNat = 4 from rfl, Int.toNat_natCast]
    go_wp2_with fail
    refine (take_ok _ _ _ (be 4 m) _ _ (be_length _ _) (by decide) (Has.new _ _ _ _) (by omega) (by omega) (by omega)).mono ?_
    rintro e w' ⟨rfl, rfl⟩
    rw [show (1 : Int).toNat = 1 from rfl]
    go_wp2_with fail
    have hz := Has.offv (k := 1) (Has.new w1 (vals (be 4 m)) 5 (0, 0))
    rw [Nat.zero_add] at hz
    have HZ := Lib.hid hz
    clear hz
    refine (take_ok _ _ _ ((be 4 m).drop 1) _ _ (by rw [List.length_drop, be_length]) (by decide) HZ.out (by omega) (by omega) (by omega)).mono ?_
    rintro e w' ⟨rfl, rfl⟩
    rw [show (3 : Int).toNat = 3 from rfl, List.take_of_length_le (by simp [be_length])]
    have h1 := hs1.out
    clear HZ HM hs1 hs2 hs3
    generalize val (List.take 1 (be 4 m)) = x at *
    have hy0 := val_lt (List.drop 1 (be 4 m))
    rw [List.length_drop, be_length] at hy0
    generalize val (List.drop 1 (be 4 m)) = y at *
    have hx1 : x < 256 ^ 1 := by omega
    have hy1 : y < 16777216 := by omega
    have hq : ((x : Int) * 16777216 + (y : Int) == (m : Int)) = true := beq_iff_eq.2 (by omega)
    clear h1 hy0
    go_wp2_with fail
    go_ret
    exact ⟨rfl, HB1.out.alloc HB1.out.size _⟩
  · go_enter Try.func7, Try.ntmps7
    go_wp2_with fail
    refine (shown1 _).mono ?_
    rintro e w1 ⟨rfl, hb1⟩
    have HB1 := Lib.hid hb1
    clear hb1
    go_wp2_with fail
    refine (put_ok _ _ _ (by omega) (by omega) hl0 (by simpa using HM.out)).mono ?_
    rintro e w' ⟨rfl, rfl⟩
    rw [show (4 : Int).toNat = 4 from rfl, Int.toNat_natCast]
    go_wp2_with fail
    refine (take_ok _ _ _ (be 4 m) _ _ (be_length _ _) (by decide) (Has.new _ _ _ _) (by omega) (by omega) (by omega)).mono ?_
    rintro e w' ⟨rfl, rfl⟩
    rw [show (2 : Int).toNat = 2 from rfl]
    go_wp2_with fail
    have hz := Has.offv (k := 2) (Has.new w1 (vals (be 4 m)) 5 (0, 0))
    rw [Nat.zero_add] at hz
    have HZ := Lib.hid hz
    clear hz
    refine (take_ok _ _ _ ((be 4 m).drop 2) _ _ (by rw [List.length_drop, be_length]) (by decide) HZ.out (by omega) (by omega) (by omega)).mono ?_
    rintro e w' ⟨rfl, rfl⟩
    rw [show (2 : Int).toNat = 2 from rfl, List.take_of_length_le (by simp [be_length])]
    have h1 := hs2.out
    clear HZ HM hs1 hs2 hs3
    generalize val (List.take 2 (be 4 m)) = x at *
    have hy0 := val_lt (List.drop 2 (be 4 m))
    rw [List.length_drop, be_length] at hy0
    generalize val (List.drop 2 (be 4 m)) = y at *
    have hx1 : x < 256 ^ 2 := by omega
    have hy1 : y < 16777216 := by omega
    have hq : ((x : Int) * 65536 + (y : Int) == (m : Int)) = true := beq_iff_eq.2 (by omega)
    clear h1 hy0
    go_wp2_with fail
    go_ret
    exact ⟨rfl, HB1.out.alloc HB1.out.size _⟩
  · go_enter Try.func7, Try.ntmps7
    go_wp2_with fail
    refine (shown1 _).mono ?_
    rintro e w1 ⟨rfl, hb1⟩
    have HB1 := Lib.hid hb1
    clear hb1
    go_wp2_with fail
    refine (put_ok _ _ _ (by omega) (by omega) hl0 (by simpa using HM.out)).mono ?_
    rintro e w' ⟨rfl, rfl⟩
    rw [show (4 : Int).toNat = 4 from rfl, Int.toNat_natCast]
    go_wp2_with fail
    refine (take_ok _ _ _ (be 4 m) _ _ (be_length _ _) (by decide) (Has.new _ _ _ _) (by omega) (by omega) (by omega)).mono ?_
    rintro e w' ⟨rfl, rfl⟩
    rw [show (3 : Int).toNat = 3 from rfl]
    go_wp2_with fail
    have hz := Has.offv (k := 3) (Has.new w1 (vals (be 4 m)) 5 (0, 0))
    rw [Nat.zero_add] at hz
    have HZ := Lib.hid hz
    clear hz
    refine (take_ok _ _ _ ((be 4 m).drop 3) _ _ (by rw [List.length_drop, be_length]) (by decide) HZ.out (by omega) (by omega) (by omega)).mono ?_
    rintro e w' ⟨rfl, rfl⟩
    rw [show (1 : Int).toNat = 1 from rfl, List.take_of_length_le (by simp [be_length])]
    have h1 := hs3.out
    clear HZ HM hs1 hs2 hs3
    generalize val (List.take 3 (be 4 m)) = x at *
    have hy0 := val_lt (List.drop 3 (be 4 m))
    rw [List.length_drop, be_length] at hy0
    generalize val (List.drop 3 (be 4 m)) = y at *
    have hx1 : x < 256 ^ 3 := by omega
    have hy1 : y < 16777216 := by omega
    have hq : ((x : Int) * 256 + (y : Int) == (m : Int)) = true := beq_iff_eq.2 (by omega)
    clear h1 hy0
    go_wp2_with fail
    go_ret
    exact ⟨rfl, HB1.out.alloc HB1.out.size _⟩
end Go.Proofs.Ytnhhpdjcipfdjaa
