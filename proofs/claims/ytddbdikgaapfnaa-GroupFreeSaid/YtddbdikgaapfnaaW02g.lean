/- The walks of the laws of package theseuslaw02: GroupFree. -/
import Derived.Test.YtddbdikgaapfnaaL02
import Derived.Test.YtddbdikgaapfnaaFrame
namespace Go.Proofs.Ytddbdikgaapfnaa
open Go.RowKit
set_option linter.unusedVariables false
set_option linter.unusedSimpArgs false

/-- do the first k of both part somewhere? -/
def partB (a b : List UInt8) (k : Nat) : Bool := decide (a.take k ≠ b.take k)
theorem partB_zero (a b : List UInt8) : partB a b 0 = false := by simp [partB]
theorem partB_succ (a b : List UInt8) (k : Nat) (ha : k < a.length) (hb : k < b.length) : partB a b (k + 1) = (partB a b k || ((a[k].toNat : Int) != (b[k].toNat : Int))) := by
  unfold partB
  rw [Bool.eq_iff_iff]
  simp only [decide_eq_true_eq, Bool.or_eq_true, bne_iff_ne, ne_eq, take_snoc_get a k ha, take_snoc_get b k hb]
  have h : (List.take k a).length = (List.take k b).length := by rw [List.length_take, List.length_take]; omega
  constructor
  · intro h1
    by_cases h2 : List.take k a = List.take k b
    · right
      intro h3
      apply h1
      rw [h2, UInt8.toNat.inj (Int.ofNat_inj.1 h3)]
    · exact .inl h2
  · intro h1 h2
    obtain ⟨h3, h4⟩ := List.append_inj h2 h
    injection h4 with h4
    rcases h1 with h1 | h1
    · exact h1 h3
    · exact h1 (by rw [h4])
set_option maxRecDepth 100000 in
set_option maxHeartbeats 1000000 in
theorem walkGroupFree (a0 a1 : Int) (w : World) (w0 : (Lit.int .u32 a0).wf = true) (w1 : (Lit.int .u32 a1).wf = true) :
    Calls Try.prog 9 #[.int .u32 a0, .int .u32 a1] w fun e w' => e = .returned (.bool true) ∧ Below w.heap.size w w' := by
  obtain ⟨hl0, hh0⟩ := bounds_u32 w0
  obtain ⟨hl1, hh1⟩ := bounds_u32 w1
  clear w0 w1
  obtain ⟨m, rfl⟩ := Int.eq_ofNat_of_zero_le hl0
  obtain ⟨n, rfl⟩ := Int.eq_ofNat_of_zero_le hl1
  obtain ⟨x, hx, hax⟩ := mask28 m (by omega)
  obtain ⟨y, hy, hay⟩ := mask28 n (by omega)
  obtain ⟨s, HS, hs1, hs2⟩ := size_pack x
  obtain ⟨t, HT, ht1, ht2⟩ := size_pack y
  go_enter Try.func9, Try.ntmps9
  go_wp2_with fail
  refine (shown2 _).mono ?_
  rintro e w1 ⟨rfl, hb1⟩
  have HB1 := Lib.hid hb1
  clear hb1
  go_wp2_with fail
  refine (gput_core x s _ hx HS).mono ?_
  rintro e w' ⟨rfl, rfl⟩
  clear hax
  go_wp2_with fail
  refine (gput_core y t _ hy HT).mono ?_
  rintro e w' ⟨rfl, rfl⟩
  clear hay
  have p1 := (Has.new w1 (vals (grp x)) 5 (0, 0)).alloc (.cells (vals (grp y)).toArray 5)
  have p2 := Has.new (w1.alloc (.cells (vals (grp x)).toArray 5)) (vals (grp y)) 5 (0, 0)
  have HB := Lib.hid ((HB1.out.alloc HB1.out.size (.cells (vals (grp x)).toArray 5)).alloc (by have := HB1.out.size; simp only [World.size_alloc]; omega) (.cells (vals (grp y)).toArray 5))
  generalize (w1.alloc (.cells (vals (grp x)).toArray 5)).alloc (.cells (vals (grp y)).toArray 5) = W at *
  generalize (w1.alloc (.cells (vals (grp x)).toArray 5)).heap.size = g at *
  have HP := Lib.hid p1
  have HQ := Lib.hid p2
  clear p1 p2
  have HXL : Hid ((grp x).length = s) := by show _ = _; rw [grp_length]; exact HS.out
  have HYL : Hid ((grp y).length = t) := by show _ = _; rw [grp_length]; exact HT.out
  have HFR : Hid ((grp x).take (min s t) = (grp y).take (min s t) → x = y) := by
    intro h
    rw [← HS.out, ← HT.out] at h
    exact grp_free x y (by omega) (by omega) h
  go_wp2_with fail
  go_loopw [12, 13] (fun v i wr => ∃ (k : Nat) (b : Bool), k ≤ s ∧ k ≤ t ∧ i = .int .i64 k ∧ v = .bool b ∧ Hid (b = partB (grp x) (grp y) k) ∧ Hid (Below w.heap.size w wr) ∧ Hid (Has wr (some ⟨w1.heap.size, 0, none⟩) (vals (grp x))) ∧ Hid (Has wr (some ⟨g, 0, none⟩) (vals (grp y)))) (fun _ i _ => s - (intOf i).toNat)
  case atStart => exact ⟨0, false, Nat.zero_le _, Nat.zero_le _, rfl, rfl, (partB_zero _ _).symm, HB, HP, HQ⟩
  case round =>
    obtain ⟨k, b, hks, hkt, rfl, rfl, HBB, HBe, HPr, HQr⟩ := hrel
    clear HP HQ HB
    by_cases hlt : k < s ∧ k < t
    · obtain ⟨hl1, hl2⟩ := hlt
      have hkx : k < (grp x).length := by rw [HXL.out]; exact hl1
      have hky : k < (grp y).length := by rw [HYL.out]; exact hl2
      obtain ⟨ad, he, hcx⟩ := HPr.out.at_ (k := k) (by rw [vals_length]; exact hkx)
      injection he with he
      subst he
      obtain ⟨ad, he, hcy⟩ := HQr.out.at_ (k := k) (by rw [vals_length]; exact hky)
      injection he with he
      subst he
      rw [vals_at _ _ hkx, add_plain, Nat.zero_add] at hcx
      rw [vals_at _ _ hky, add_plain, Nat.zero_add] at hcy
      have HN := Lib.hid (partB_succ (grp x) (grp y) k hkx hky)
      cases b
      · go_wp2_with fail
        go_quiet (fail)
        go_wp2_with fail
        go_roundw
        case rel => exact ⟨k + 1, _, by omega, by omega, by go_num, rfl, by show _ = _; rw [HN.out, ← HBB.out]; rfl, drewN_below HBe.out nq, HPr.out.drewN nq, HQr.out.drewN nq⟩
        case measure => simp [intOf]; omega
      · go_wp2_with fail
        go_quiet (fail)
        go_wp2_with fail
        go_roundw
        case rel => exact ⟨k + 1, _, by omega, by omega, by go_num, rfl, by show _ = _; rw [HN.out, ← HBB.out]; rfl, drewN_below HBe.out nq, HPr.out.drewN nq, HQr.out.drewN nq⟩
        case measure => simp [intOf]; omega
    · have hmin : k = min s t := by omega
      have HE : Hid (b = ((x : Int) != (y : Int))) := by
        show _ = _
        rw [HBB.out, hmin, partB, Bool.eq_iff_iff]
        simp only [decide_eq_true_eq, bne_iff_ne, ne_eq]
        constructor
        · intro h1 h2
          apply h1
          rw [Int.ofNat_inj.1 h2]
        · intro h1 h2
          exact h1 (by rw [HFR.out h2])
      have hbeq : (b == ((x : Int) != (y : Int))) = true := beq_iff_eq.2 HE.out
      clear hmin
      rcases (by omega : ¬ k < s ∨ k < s ∧ ¬ k < t) with h1 | ⟨h1, h2⟩
      · clear hlt
        go_wp2_with fail
        go_ret
        exact ⟨rfl, HBe.out⟩
      · clear hlt
        go_wp2_with fail
        go_ret
        exact ⟨rfl, HBe.out⟩
end Go.Proofs.Ytddbdikgaapfnaa
