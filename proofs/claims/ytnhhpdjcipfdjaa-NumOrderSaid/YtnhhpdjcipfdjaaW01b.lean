/- The walks of the laws of package theseuslaw01: NumOrder. -/
import Derived.Test.YtnhhpdjcipfdjaaL01
import Derived.Test.YtnhhpdjcipfdjaaFrame
namespace Go.Proofs.Ytnhhpdjcipfdjaa
open Go.RowKit
set_option linter.unusedVariables false
set_option linter.unusedSimpArgs false

theorem and_mask (m k : Nat) (hm : m < 4294967296) (hk : k ≤ 32) : bits .and .i64 (m : Int) (((2 ^ k - 1 : Nat)) : Int) = ((m % 2 ^ k : Nat) : Int) := by
  have h1 : 2 ^ k ≤ 2 ^ 32 := Nat.pow_le_pow_right (by omega) hk
  rw [i64_and_nat _ _ (by omega) (by omega), Nat.and_two_pow_sub_one_eq_mod]

theorem cat_bytes (a b : ByteArray) (c : List UInt8) (hc : a.data.toList ++ b.data.toList = c) : a ++ b = ⟨c.toArray⟩ := by
  apply ByteArray.ext
  rw [ByteArray.data_append, ← hc]
  simp
set_option maxHeartbeats 1000000 in
theorem order_1 (m n : Nat) (a2 : Int) (w : World) (hl0 : 0 ≤ (m : Int)) (hh0 : (m : Int) ≤ 4294967295) (hl1 : 0 ≤ (n : Int)) (hh1 : (n : Int) ≤ 4294967295) (hl2 : 0 ≤ a2) (hh2 : a2 ≤ 255) (hk : a2 % 4 = 0) :
    Calls Try.prog 5 #[.int .u32 m, .int .u32 n, .int .u8 a2] w fun e w' => e = .returned (.bool true) ∧ Below w.heap.size w w' := by
  obtain ⟨x, hx, hax⟩ : ∃ x : Nat, x < 256 ^ 1 ∧ bits .and .i64 (m : Int) 255 = (x : Int) := ⟨_, Nat.mod_lt _ (by decide), and_mask m 8 (by omega) (by omega)⟩
  obtain ⟨y, hy, hay⟩ : ∃ x : Nat, x < 256 ^ 1 ∧ bits .and .i64 (n : Int) 255 = (x : Int) := ⟨_, Nat.mod_lt _ (by decide), and_mask n 8 (by omega) (by omega)⟩
  have HX := Lib.hid hx
  have HY := Lib.hid hy
  clear hx hy
  go_enter Try.func5, Try.ntmps5
  go_wp2_with fail
  refine (shown1 _).mono ?_
  rintro e w1 ⟨rfl, hb1⟩
  have HB1 := Lib.hid hb1
  clear hb1
  go_wp2_with fail
  refine (put_ok _ _ _ (by omega) (by omega) (by omega) (by simpa using HX.out)).mono ?_
  rintro e w' ⟨rfl, rfl⟩
  rw [show (1 : Int).toNat = 1 from rfl, Int.toNat_natCast]
  go_wp2_with fail
  refine (put_ok _ _ _ (by omega) (by omega) (by omega) (by simpa using HY.out)).mono ?_
  rintro e w' ⟨rfl, rfl⟩
  rw [show (1 : Int).toNat = 1 from rfl, Int.toNat_natCast]
  go_wp2_with fail
  refine (put_ok _ _ _ (by omega) (by omega) (by omega) (Nat.lt_of_lt_of_le HX.out (by decide))).mono ?_
  rintro e w' ⟨rfl, rfl⟩
  rw [show (4 : Int).toNat = 4 from rfl, Int.toNat_natCast]
  clear hax hay
  have p1 := ((Has.new w1 (vals (be 1 x)) 5 (0, 0)).alloc (.cells (vals (be 1 y)).toArray 5)).alloc (.cells (vals (be 4 x)).toArray 5)
  have p2 := (Has.new (w1.alloc (.cells (vals (be 1 x)).toArray 5)) (vals (be 1 y)) 5 (0, 0)).alloc (.cells (vals (be 4 x)).toArray 5)
  have p3 := Has.new ((w1.alloc (.cells (vals (be 1 x)).toArray 5)).alloc (.cells (vals (be 1 y)).toArray 5)) (vals (be 4 x)) 5 (0, 0)
  simp only [World.size_alloc] at p2 p3
  have HB := Lib.hid (((HB1.out.alloc HB1.out.size (.cells (vals (be 1 x)).toArray 5)).alloc (by have := HB1.out.size; simp only [World.size_alloc]; omega) (.cells (vals (be 1 y)).toArray 5)).alloc (by have := HB1.out.size; simp only [World.size_alloc]; omega) (.cells (vals (be 4 x)).toArray 5))
  go_wp2_with fail
  generalize ((w1.alloc (.cells (vals (be 1 x)).toArray 5)).alloc (.cells (vals (be 1 y)).toArray 5)).alloc (.cells (vals (be 4 x)).toArray 5) = W at *
  have c1 := fun k => run_string_of (P := Try.prog) (W.drewN k) 23 5 9 Try.underlying23 Try.underlying5 Try.underlying9 _ 1 1 _ (be_length _ _) (p1.drewN k)
  have c2 := fun k => run_string_of (P := Try.prog) (W.drewN k) 23 5 9 Try.underlying23 Try.underlying5 Try.underlying9 _ 1 1 _ (be_length _ _) (p2.drewN k)
  have c3 := fun k => run_string_of (P := Try.prog) (W.drewN k) 23 5 9 Try.underlying23 Try.underlying5 Try.underlying9 _ 4 4 _ (be_length _ _) (p3.drewN k)
  clear p1 p2 p3
  have hless : Op.bytesLess (be 1 x) (be 1 y) = decide (x < y) := by
    rw [bytesLess_lt, decide_eq_decide]
    exact be_less HX.out HY.out
  have heq : (be 1 x == be 1 y) = ((x : Int) == (y : Int)) := by
    rw [Bool.eq_iff_iff, beq_iff_eq, beq_iff_eq]
    exact ⟨fun h => by rw [be_inj HX.out HY.out h], fun h => by rw [Int.ofNat_inj.1 h]⟩
  have hbl := be_length 1 x
  have hcat := cat_bytes (ByteArray.extract { data := #[0, 0, 0] } 0 3) { data := (be 1 x).toArray } (be 4 x) (by rw [be_wide 1 x 3 HX.out]; rfl)
  go_quiet (fail)
  go_wp2
  go_ret
  exact ⟨rfl, drewN_below HB.out _⟩
set_option maxHeartbeats 1000000 in
theorem order_2 (m n : Nat) (a2 : Int) (w : World) (hl0 : 0 ≤ (m : Int)) (hh0 : (m : Int) ≤ 4294967295) (hl1 : 0 ≤ (n : Int)) (hh1 : (n : Int) ≤ 4294967295) (hl2 : 0 ≤ a2) (hh2 : a2 ≤ 255) (hk : a2 % 4 = 1) :
    Calls Try.prog 5 #[.int .u32 m, .int .u32 n, .int .u8 a2] w fun e w' => e = .returned (.bool true) ∧ Below w.heap.size w w' := by
  obtain ⟨x, hx, hax⟩ : ∃ x : Nat, x < 256 ^ 2 ∧ bits .and .i64 (m : Int) 65535 = (x : Int) := ⟨_, Nat.mod_lt _ (by decide), and_mask m 16 (by omega) (by omega)⟩
  obtain ⟨y, hy, hay⟩ : ∃ x : Nat, x < 256 ^ 2 ∧ bits .and .i64 (n : Int) 65535 = (x : Int) := ⟨_, Nat.mod_lt _ (by decide), and_mask n 16 (by omega) (by omega)⟩
  have HX := Lib.hid hx
  have HY := Lib.hid hy
  clear hx hy
  go_enter Try.func5, Try.ntmps5
  go_wp2_with fail
  refine (shown1 _).mono ?_
  rintro e w1 ⟨rfl, hb1⟩
  have HB1 := Lib.hid hb1
  clear hb1
  go_wp2_with fail
  refine (put_ok _ _ _ (by omega) (by omega) (by omega) (by simpa using HX.out)).mono ?_
  rintro e w' ⟨rfl, rfl⟩
  rw [show (2 : Int).toNat = 2 from rfl, Int.toNat_natCast]
  go_wp2_with fail
  refine (put_ok _ _ _ (by omega) (by omega) (by omega) (by simpa using HY.out)).mono ?_
  rintro e w' ⟨rfl, rfl⟩
  rw [show (2 : Int).toNat = 2 from rfl, Int.toNat_natCast]
  go_wp2_with fail
  refine (put_ok _ _ _ (by omega) (by omega) (by omega) (Nat.lt_of_lt_of_le HX.out (by decide))).mono ?_
  rintro e w' ⟨rfl, rfl⟩
  rw [show (4 : Int).toNat = 4 from rfl, Int.toNat_natCast]
  clear hax hay
  have p1 := ((Has.new w1 (vals (be 2 x)) 5 (0, 0)).alloc (.cells (vals (be 2 y)).toArray 5)).alloc (.cells (vals (be 4 x)).toArray 5)
  have p2 := (Has.new (w1.alloc (.cells (vals (be 2 x)).toArray 5)) (vals (be 2 y)) 5 (0, 0)).alloc (.cells (vals (be 4 x)).toArray 5)
  have p3 := Has.new ((w1.alloc (.cells (vals (be 2 x)).toArray 5)).alloc (.cells (vals (be 2 y)).toArray 5)) (vals (be 4 x)) 5 (0, 0)
  simp only [World.size_alloc] at p2 p3
  have HB := Lib.hid (((HB1.out.alloc HB1.out.size (.cells (vals (be 2 x)).toArray 5)).alloc (by have := HB1.out.size; simp only [World.size_alloc]; omega) (.cells (vals (be 2 y)).toArray 5)).alloc (by have := HB1.out.size; simp only [World.size_alloc]; omega) (.cells (vals (be 4 x)).toArray 5))
  go_wp2_with fail
  generalize ((w1.alloc (.cells (vals (be 2 x)).toArray 5)).alloc (.cells (vals (be 2 y)).toArray 5)).alloc (.cells (vals (be 4 x)).toArray 5) = W at *
  have c1 := fun k => run_string_of (P := Try.prog) (W.drewN k) 23 5 9 Try.underlying23 Try.underlying5 Try.underlying9 _ 2 2 _ (be_length _ _) (p1.drewN k)
  have c2 := fun k => run_string_of (P := Try.prog) (W.drewN k) 23 5 9 Try.underlying23 Try.underlying5 Try.underlying9 _ 2 2 _ (be_length _ _) (p2.drewN k)
  have c3 := fun k => run_string_of (P := Try.prog) (W.drewN k) 23 5 9 Try.underlying23 Try.underlying5 Try.underlying9 _ 4 4 _ (be_length _ _) (p3.drewN k)
  clear p1 p2 p3
  have hless : Op.bytesLess (be 2 x) (be 2 y) = decide (x < y) := by
    rw [bytesLess_lt, decide_eq_decide]
    exact be_less HX.out HY.out
  have heq : (be 2 x == be 2 y) = ((x : Int) == (y : Int)) := by
    rw [Bool.eq_iff_iff, beq_iff_eq, beq_iff_eq]
    exact ⟨fun h => by rw [be_inj HX.out HY.out h], fun h => by rw [Int.ofNat_inj.1 h]⟩
  have hbl := be_length 2 x
  have hcat := cat_bytes (ByteArray.extract { data := #[0, 0, 0] } 0 2) { data := (be 2 x).toArray } (be 4 x) (by rw [be_wide 2 x 2 HX.out]; rfl)
  go_quiet (fail)
  go_wp2
  go_ret
  exact ⟨rfl, drewN_below HB.out _⟩
set_option maxHeartbeats 1000000 in
theorem order_3 (m n : Nat) (a2 : Int) (w : World) (hl0 : 0 ≤ (m : Int)) (hh0 : (m : Int) ≤ 4294967295) (hl1 : 0 ≤ (n : Int)) (hh1 : (n : Int) ≤ 4294967295) (hl2 : 0 ≤ a2) (hh2 : a2 ≤ 255) (hk : a2 % 4 = 2) :
    Calls Try.prog 5 #[.int .u32 m, .int .u32 n, .int .u8 a2] w fun e w' => e = .returned (.bool true) ∧ Below w.heap.size w w' := by
  obtain ⟨x, hx, hax⟩ : ∃ x : Nat, x < 256 ^ 3 ∧ bits .and .i64 (m : Int) 16777215 = (x : Int) := ⟨_, Nat.mod_lt _ (by decide), and_mask m 24 (by omega) (by omega)⟩
  obtain ⟨y, hy, hay⟩ : ∃ x : Nat, x < 256 ^ 3 ∧ bits .and .i64 (n : Int) 16777215 = (x : Int) := ⟨_, Nat.mod_lt _ (by decide), and_mask n 24 (by omega) (by omega)⟩
  have HX := Lib.hid hx
  have HY := Lib.hid hy
  clear hx hy
  go_enter Try.func5, Try.ntmps5
  go_wp2_with fail
  refine (shown1 _).mono ?_
  rintro e w1 ⟨rfl, hb1⟩
  have HB1 := Lib.hid hb1
  clear hb1
  go_wp2_with fail
  refine (put_ok _ _ _ (by omega) (by omega) (by omega) (by simpa using HX.out)).mono ?_
  rintro e w' ⟨rfl, rfl⟩
  rw [show (3 : Int).toNat = 3 from rfl, Int.toNat_natCast]
  go_wp2_with fail
  refine (put_ok _ _ _ (by omega) (by omega) (by omega) (by simpa using HY.out)).mono ?_
  rintro e w' ⟨rfl, rfl⟩
  rw [show (3 : Int).toNat = 3 from rfl, Int.toNat_natCast]
  go_wp2_with fail
  refine (put_ok _ _ _ (by omega) (by omega) (by omega) (Nat.lt_of_lt_of_le HX.out (by decide))).mono ?_
  rintro e w' ⟨rfl, rfl⟩
  rw [show (4 : Int).toNat = 4 from rfl, Int.toNat_natCast]
  clear hax hay
  have p1 := ((Has.new w1 (vals (be 3 x)) 5 (0, 0)).alloc (.cells (vals (be 3 y)).toArray 5)).alloc (.cells (vals (be 4 x)).toArray 5)
  have p2 := (Has.new (w1.alloc (.cells (vals (be 3 x)).toArray 5)) (vals (be 3 y)) 5 (0, 0)).alloc (.cells (vals (be 4 x)).toArray 5)
  have p3 := Has.new ((w1.alloc (.cells (vals (be 3 x)).toArray 5)).alloc (.cells (vals (be 3 y)).toArray 5)) (vals (be 4 x)) 5 (0, 0)
  simp only [World.size_alloc] at p2 p3
  have HB := Lib.hid (((HB1.out.alloc HB1.out.size (.cells (vals (be 3 x)).toArray 5)).alloc (by have := HB1.out.size; simp only [World.size_alloc]; omega) (.cells (vals (be 3 y)).toArray 5)).alloc (by have := HB1.out.size; simp only [World.size_alloc]; omega) (.cells (vals (be 4 x)).toArray 5))
  go_wp2_with fail
  generalize ((w1.alloc (.cells (vals (be 3 x)).toArray 5)).alloc (.cells (vals (be 3 y)).toArray 5)).alloc (.cells (vals (be 4 x)).toArray 5) = W at *
  have c1 := fun k => run_string_of (P := Try.prog) (W.drewN k) 23 5 9 Try.underlying23 Try.underlying5 Try.underlying9 _ 3 3 _ (be_length _ _) (p1.drewN k)
  have c2 := fun k => run_string_of (P := Try.prog) (W.drewN k) 23 5 9 Try.underlying23 Try.underlying5 Try.underlying9 _ 3 3 _ (be_length _ _) (p2.drewN k)
  have c3 := fun k => run_string_of (P := Try.prog) (W.drewN k) 23 5 9 Try.underlying23 Try.underlying5 Try.underlying9 _ 4 4 _ (be_length _ _) (p3.drewN k)
  clear p1 p2 p3
  have hless : Op.bytesLess (be 3 x) (be 3 y) = decide (x < y) := by
    rw [bytesLess_lt, decide_eq_decide]
    exact be_less HX.out HY.out
  have heq : (be 3 x == be 3 y) = ((x : Int) == (y : Int)) := by
    rw [Bool.eq_iff_iff, beq_iff_eq, beq_iff_eq]
    exact ⟨fun h => by rw [be_inj HX.out HY.out h], fun h => by rw [Int.ofNat_inj.1 h]⟩
  have hbl := be_length 3 x
  have hcat := cat_bytes (ByteArray.extract { data := #[0, 0, 0] } 0 1) { data := (be 3 x).toArray } (be 4 x) (by rw [be_wide 3 x 1 HX.out]; rfl)
  go_quiet (fail)
  go_wp2
  go_ret
  exact ⟨rfl, drewN_below HB.out _⟩
set_option maxHeartbeats 1000000 in
theorem order_4 (m n : Nat) (a2 : Int) (w : World) (hl0 : 0 ≤ (m : Int)) (hh0 : (m : Int) ≤ 4294967295) (hl1 : 0 ≤ (n : Int)) (hh1 : (n : Int) ≤ 4294967295) (hl2 : 0 ≤ a2) (hh2 : a2 ≤ 255) (hk : a2 % 4 = 3) :
    Calls Try.prog 5 #[.int .u32 m, .int .u32 n, .int .u8 a2] w fun e w' => e = .returned (.bool true) ∧ Below w.heap.size w w' := by
  obtain ⟨x, hx, hax⟩ : ∃ x : Nat, x < 256 ^ 4 ∧ bits .and .i64 (m : Int) 4294967295 = (x : Int) := ⟨_, Nat.mod_lt _ (by decide), and_mask m 32 (by omega) (by omega)⟩
  obtain ⟨y, hy, hay⟩ : ∃ x : Nat, x < 256 ^ 4 ∧ bits .and .i64 (n : Int) 4294967295 = (x : Int) := ⟨_, Nat.mod_lt _ (by decide), and_mask n 32 (by omega) (by omega)⟩
  have HX := Lib.hid hx
  have HY := Lib.hid hy
  clear hx hy
  go_enter Try.func5, Try.ntmps5
  go_wp2_with fail
  refine (shown1 _).mono ?_
  rintro e w1 ⟨rfl, hb1⟩
  have HB1 := Lib.hid hb1
  clear hb1
  go_wp2_with fail
  refine (put_ok _ _ _ (by omega) (by omega) (by omega) (by simpa using HX.out)).mono ?_
  rintro e w' ⟨rfl, rfl⟩
  rw [show (4 : Int).toNat = 4 from rfl, Int.toNat_natCast]
  go_wp2_with fail
  refine (put_ok _ _ _ (by omega) (by omega) (by omega) (by simpa using HY.out)).mono ?_
  rintro e w' ⟨rfl, rfl⟩
  rw [show (4 : Int).toNat = 4 from rfl, Int.toNat_natCast]
  go_wp2_with fail
  refine (put_ok _ _ _ (by omega) (by omega) (by omega) (Nat.lt_of_lt_of_le HX.out (by decide))).mono ?_
  rintro e w' ⟨rfl, rfl⟩
  rw [show (4 : Int).toNat = 4 from rfl, Int.toNat_natCast]
  clear hax hay
  have p1 := ((Has.new w1 (vals (be 4 x)) 5 (0, 0)).alloc (.cells (vals (be 4 y)).toArray 5)).alloc (.cells (vals (be 4 x)).toArray 5)
  have p2 := (Has.new (w1.alloc (.cells (vals (be 4 x)).toArray 5)) (vals (be 4 y)) 5 (0, 0)).alloc (.cells (vals (be 4 x)).toArray 5)
  have p3 := Has.new ((w1.alloc (.cells (vals (be 4 x)).toArray 5)).alloc (.cells (vals (be 4 y)).toArray 5)) (vals (be 4 x)) 5 (0, 0)
  simp only [World.size_alloc] at p2 p3
  have HB := Lib.hid (((HB1.out.alloc HB1.out.size (.cells (vals (be 4 x)).toArray 5)).alloc (by have := HB1.out.size; simp only [World.size_alloc]; omega) (.cells (vals (be 4 y)).toArray 5)).alloc (by have := HB1.out.size; simp only [World.size_alloc]; omega) (.cells (vals (be 4 x)).toArray 5))
  go_wp2_with fail
  generalize ((w1.alloc (.cells (vals (be 4 x)).toArray 5)).alloc (.cells (vals (be 4 y)).toArray 5)).alloc (.cells (vals (be 4 x)).toArray 5) = W at *
  have c1 := fun k => run_string_of (P := Try.prog) (W.drewN k) 23 5 9 Try.underlying23 Try.underlying5 Try.underlying9 _ 4 4 _ (be_length _ _) (p1.drewN k)
  have c2 := fun k => run_string_of (P := Try.prog) (W.drewN k) 23 5 9 Try.underlying23 Try.underlying5 Try.underlying9 _ 4 4 _ (be_length _ _) (p2.drewN k)
  have c3 := fun k => run_string_of (P := Try.prog) (W.drewN k) 23 5 9 Try.underlying23 Try.underlying5 Try.underlying9 _ 4 4 _ (be_length _ _) (p3.drewN k)
  clear p1 p2 p3
  have hless : Op.bytesLess (be 4 x) (be 4 y) = decide (x < y) := by
    rw [bytesLess_lt, decide_eq_decide]
    exact be_less HX.out HY.out
  have heq : (be 4 x == be 4 y) = ((x : Int) == (y : Int)) := by
    rw [Bool.eq_iff_iff, beq_iff_eq, beq_iff_eq]
    exact ⟨fun h => by rw [be_inj HX.out HY.out h], fun h => by rw [Int.ofNat_inj.1 h]⟩
  have hbl := be_length 4 x
  have hcat := cat_bytes (ByteArray.extract { data := #[0, 0, 0] } 0 0) { data := (be 4 x).toArray } (be 4 x) (by rw [be_wide 4 x 0 HX.out]; rfl)
  go_quiet (fail)
  go_wp2
  go_ret
  exact ⟨rfl, drewN_below HB.out _⟩
theorem walkNumOrder (a0 a1 a2 : Int) (w : World) (w0 : (Lit.int .u32 a0).wf = true) (w1 : (Lit.int .u32 a1).wf = true) (w2 : (Lit.int .u8 a2).wf = true) :
    Calls Try.prog 5 #[.int .u32 a0, .int .u32 a1, .int .u8 a2] w fun e w' => e = .returned (.bool true) ∧ Below w.heap.size w w' := by
  obtain ⟨hl0, hh0⟩ := bounds_u32 w0
  obtain ⟨hl1, hh1⟩ := bounds_u32 w1
  obtain ⟨hl2, hh2⟩ := bounds_u8 w2
  clear w0 w1 w2
  obtain ⟨m, rfl⟩ := Int.eq_ofNat_of_zero_le hl0
  obtain ⟨n, rfl⟩ := Int.eq_ofNat_of_zero_le hl1
  rcases (by omega : a2 % 4 = 0 ∨ a2 % 4 = 1 ∨ a2 % 4 = 2 ∨ a2 % 4 = 3) with hk | hk | hk | hk
  · exact order_1 m n a2 w hl0 hh0 hl1 hh1 hl2 hh2 hk
  · exact order_2 m n a2 w hl0 hh0 hl1 hh1 hl2 hh2 hk
  · exact order_3 m n a2 w hl0 hh0 hl1 hh1 hl2 hh2 hk
  · exact order_4 m n a2 w hl0 hh0 hl1 hh1 hl2 hh2 hk
end Go.Proofs.Ytnhhpdjcipfdjaa
