/- The walks of the laws of package theseuslaw02: GroupOrder. -/
import Derived.Test.YtddbdikgaapfnaaL02
import Derived.Test.YtddbdikgaapfnaaFrame
import Derived.Deep.DeepCutAuto
namespace Go.Proofs.Ytddbdikgaapfnaa
open Go.RowKit
set_option linter.unusedVariables false
set_option linter.unusedSimpArgs false

theorem pow_wrap7 (s : Nat) (h2 : s ≤ 4) : wrap64 (2 ^ (7 * s)) = ((128 ^ s : Nat) : Int) := by
  have : s = 0 ∨ s = 1 ∨ s = 2 ∨ s = 3 ∨ s = 4 := by omega
  rcases this with rfl | rfl | rfl | rfl | rfl <;> (rw [IntWalk.wrap64_in _ (by decide)]; rfl)
theorem order_facts (x s : Nat) (hx : x ≤ 268435455) (hs : Hid (gsize x = s)) : (x : Int) < wrap64 (2 ^ (7 * s)) ∧ (((s : Int) == 1) = true ∨ (((s : Int) == 1) = false ∧ wrap64 (2 ^ (7 * (s - 1))) ≤ (x : Int))) := by
  have hp := gsize_pos x
  rw [hs.out] at hp
  rw [pow_wrap7 s hp.2, pow_wrap7 (s - 1) (by omega), beq_iff_eq, beq_eq_false_iff_ne]
  have h := size_cases x
  rw [hs.out] at h
  rcases h with ⟨h1, rfl⟩ | ⟨h1, h3, rfl⟩ | ⟨h1, h3, rfl⟩ | ⟨h1, rfl⟩
  · exact ⟨by show _ < (128 : Int); omega, .inl rfl⟩
  · exact ⟨by show _ < (16384 : Int); omega, .inr ⟨by decide, by show (128 : Int) ≤ _; omega⟩⟩
  · exact ⟨by show _ < (2097152 : Int); omega, .inr ⟨by decide, by show (16384 : Int) ≤ _; omega⟩⟩
  · exact ⟨by show _ < (268435456 : Int); omega, .inr ⟨by decide, by show (2097152 : Int) ≤ _; omega⟩⟩
theorem order_rel (x y s t : Nat) (hx : x ≤ 268435455) (hy : y ≤ 268435455) (hs : Hid (gsize x = s)) (ht : Hid (gsize y = t)) :
    (s < t ∧ x < y) ∨ (t < s ∧ decide (s < t) = false ∧ ¬ x < y) ∨ (s = t ∧ x < y ∧ Op.bytesLess (grp x) (grp y) = true) ∨ (s = t ∧ ¬ x < y ∧ Op.bytesLess (grp x) (grp y) = false) := by
  have h1 := size_cases x
  have h2 := size_cases y
  have h3 := grp_less x y hx hy
  rw [hs.out] at h1 h3
  rw [ht.out] at h2 h3
  rw [bytesLess_lt]
  rcases Nat.lt_trichotomy s t with h | h | h
  · left; omega
  · right; right
    have h4 := h3 h
    by_cases h5 : x < y
    · left; exact ⟨h, h5, decide_eq_true (h4.2 h5)⟩
    · right; exact ⟨h, h5, decide_eq_false (fun h6 => h5 (h4.1 h6))⟩
  · right; left; exact ⟨h, decide_eq_false (by omega), by omega⟩
set_option maxRecDepth 100000 in
set_option maxHeartbeats 16000000 in
theorem walkGroupOrder (a0 a1 a2 : Int) (w : World) (w0 : (Lit.int .u32 a0).wf = true) (w1 : (Lit.int .u32 a1).wf = true) (w2 : (Lit.int .i64 a2).wf = true) :
    Calls Try.prog 6 #[.int .u32 a0, .int .u32 a1, .int .i64 a2] w fun e w' => e = .returned (.bool true) ∧ Below w.heap.size w w' := by
  obtain ⟨hl0, hh0⟩ := bounds_u32 w0
  obtain ⟨hl1, hh1⟩ := bounds_u32 w1
  clear w0 w1 w2
  obtain ⟨m, rfl⟩ := Int.eq_ofNat_of_zero_le hl0
  obtain ⟨n, rfl⟩ := Int.eq_ofNat_of_zero_le hl1
  obtain ⟨x, hx, hax⟩ := mask28 m (by omega)
  obtain ⟨y, hy, hay⟩ := mask28 n (by omega)
  obtain ⟨s, HS, hs1, hs2⟩ := size_pack x
  obtain ⟨t, HT, ht1, ht2⟩ := size_pack y
  have hx0 : 0 ≤ (x : Int) := by omega
  have hy0 : 0 ≤ (y : Int) := by omega
  go_enter Try.func6, Try.ntmps6
  go_wp2_with fail
  refine (shown2 _).mono ?_
  rintro e w1 ⟨rfl, hb1⟩
  have HB1 := Lib.hid hb1
  clear hb1
  go_wp2_with fail
  refine (gput_core x s _ hx HS).mono ?_
  rintro e w' ⟨rfl, rfl⟩
  clear hax
  go_wp2_with fail
  refine (gput_core y t _ hy HT).mono ?_
  rintro e w' ⟨rfl, rfl⟩
  clear hay
  have p1 := (Has.new w1 (vals (grp x)) 5 (0, 0)).alloc (.cells (vals (grp y)).toArray 5)
  have p2 := Has.new (w1.alloc (.cells (vals (grp x)).toArray 5)) (vals (grp y)) 5 (0, 0)
  have HB := Lib.hid ((HB1.out.alloc HB1.out.size (.cells (vals (grp x)).toArray 5)).alloc (by have := HB1.out.size; simp only [World.size_alloc]; omega) (.cells (vals (grp y)).toArray 5))
  generalize (w1.alloc (.cells (vals (grp x)).toArray 5)).alloc (.cells (vals (grp y)).toArray 5) = W at *
  generalize (w1.alloc (.cells (vals (grp x)).toArray 5)).heap.size = g at *
  have HXL : Hid ((grp x).length = s) := by show _ = _; rw [grp_length]; exact HS.out
  have HYL : Hid ((grp y).length = t) := by show _ = _; rw [grp_length]; exact HT.out
  have c1 := run_string_of (P := Try.prog) W 22 5 9 Try.underlying22 Try.underlying5 Try.underlying9 _ s s _ HXL.out p1
  have c2 := run_string_of (P := Try.prog) W 22 5 9 Try.underlying22 Try.underlying5 Try.underlying9 _ t t _ HYL.out p2
  clear p1 p2
  have hw1 := (order_facts x s (by omega) HS).1
  have hw2 := (order_facts x s (by omega) HS).2
  have hrl := order_rel x y s t (by omega) (by omega) HS HT
  clear HXL HYL hh0 hh1 hl0 hl1
  rcases hrl with ⟨h5, h6⟩ | ⟨h5, hd, h6⟩ | ⟨rfl, h6, h7⟩ | ⟨rfl, h6, h7⟩
  all_goals
    rcases hw2 with e1 | ⟨e1, e2⟩
    all_goals
      rcases (by omega : a2 < 0 ∨ (0 ≤ a2 ∧ a2 ≤ 268435455) ∨ 268435455 < a2) with h3 | ⟨h3, h4⟩ | h3
      all_goals
        go_wp2_with fail
        refine (gput_no _ _ (by omega)).mono ?_
        rintro e w' ⟨rfl, rfl⟩
        go_wp2_with (go_at_call 16; refine (gsize_out _ _ (by omega)).mono ?_; rintro e w' ⟨rfl, rfl⟩)
        go_ret
        exact ⟨rfl, HB.out⟩
end Go.Proofs.Ytddbdikgaapfnaa
