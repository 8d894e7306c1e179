/- The walks of the laws of package theseuslaw01: NumTaken. -/
import Derived.Test.YtnhhpdjcipfdjaaL01
import Derived.Test.YtnhhpdjcipfdjaaFrame
namespace Go.Proofs.Ytnhhpdjcipfdjaa
open Go.RowKit
set_option linter.unusedVariables false
set_option linter.unusedSimpArgs false
attribute [local go_sem ↓] sliced_cut
attribute [local go_sem] cutA_zero

theorem int_info : (Try.prog.info? 3).map (fun i => (i.zero, i.size, i.bytes)) = some (some (.int .i64 0), 1, 8) := by kernel_rfl
/-- the numbers of the first k pieces of s bytes -/
def chunks (s : Nat) (L : List UInt8) (k : Nat) : List Int := (List.range k).map fun j => (val ((L.drop (j * s)).take s) : Int)
theorem chunks_succ (s : Nat) (L : List UInt8) (k : Nat) : chunks s L (k + 1) = chunks s L k ++ [(val ((L.drop (k * s)).take s) : Int)] := by simp [chunks, List.range_succ]
theorem chunks_length (s : Nat) (L : List UInt8) (k : Nat) : (chunks s L k).length = k := by simp [chunks]
theorem chunks_row (s : Nat) (L : List UInt8) (k : Nat) (h : k * s ≤ L.length) : rowb s (chunks s L k) = L.take (k * s) := by
  induction k with
  | zero => simp [chunks, rowb]
  | succ k ih =>
    rw [Nat.add_mul, Nat.one_mul] at h
    rw [chunks_succ, rowb, List.flatMap_append, ← rowb, ih (by omega), List.flatMap_singleton, Int.toNat_natCast, Nat.add_mul, Nat.one_mul, List.take_add]
    congr 1
    have hl : ((L.drop (k * s)).take s).length = s := by rw [List.length_take, List.length_drop]; omega
    have := be_val ((L.drop (k * s)).take s)
    rw [hl] at this
    exact this
theorem chunks_fit (s : Nat) (L : List UInt8) (k : Nat) : ∀ x ∈ chunks s L k, fits s x := by
  intro x hx
  simp only [chunks, List.mem_map] at hx
  obtain ⟨j, _, rfl⟩ := hx
  exact ⟨Int.natCast_nonneg _, by rw [Int.toNat_natCast]; exact val_take_lt _ _⟩

theorem walkNumTaken (a0 : Option Addr) (n0 c0 : Nat) (l0 : List UInt8) (a1 : Int) (w : World) (w0 : InB w a0 n0 c0 l0) (w1 : (Lit.int .u8 a1).wf = true) :
    Calls Try.prog 6 #[.slice a0 n0 c0, .int .u8 a1] w fun e w' => e = .returned (.bool true) ∧ Below w.heap.size w w' := by
  obtain ⟨hl1, hh1⟩ := bounds_u8 w1
  clear w1
  obtain ⟨hlen, hcap, hmax, hhas⟩ := w0
  obtain ⟨s, hs⟩ : ∃ s : Nat, 1 + a1 % 4 = s := ⟨(1 + a1 % 4).toNat, by omega⟩
  have hs1 : 1 ≤ (s : Int) := by omega
  have hs2 : (s : Int) ≤ 4 := by omega
  obtain ⟨N, hN⟩ : ∃ N, min n0 40 = N := ⟨_, rfl⟩
  have hN1 : N ≤ 40 := by omega
  have hN2 : N ≤ c0 := by omega
  have HL : Hid ((l0.take 40).length = N) := by rw [List.length_take, hlen, Nat.min_comm]; exact hN
  have HH : Hid (Has w a0 (vals (l0.take 40))) := by rw [vals_take]; exact hhas.take 40
  generalize l0.take 40 = L at *
  have hmax' := hmax
  unfold maxLen at hmax'
  have HM := Lib.hid hmax
  clear hhas hlen hmax
  go_enter Try.func6, Try.ntmps6
  go_wp2_with fail
  refine (shown1 _).mono ?_
  rintro e w1 ⟨rfl, hb1⟩
  have HB1 := Lib.hid hb1
  clear hb1
  go_wp2_with fail
  refine (few1 _ _ _ _ hcap HM.out).mono ?_
  rintro e w' ⟨rfl, rfl⟩
  rw [hN]
  clear hN hcap
  go_wp2_with fail
  have HO0 : Hid ((w1.alloc (.cells #[] 3)).ownsRow w.heap.size 3 1 (.slice (some ⟨w1.heap.size, 0, none⟩) 0 0) 0 (ints (chunks s L 0))) :=
    World.ownsRow_lit (e := 3) (size := 1) w1 #[] 0 HB1.out.size (by decide) rfl
  have HB2 := Lib.hid (HB1.out.alloc HB1.out.size (.cells #[] 3))
  go_loopw [8, 9] (fun v i wr => ∃ k p : Nat, Hid (p = k * s) ∧ p ≤ N ∧ i = .int .i64 p ∧ Hid (wr.ownsRow w.heap.size 3 1 v k (ints (chunks s L k))) ∧ Hid (Below w.heap.size w wr)) (fun _ i _ => N - (intOf i).toNat)
  case atStart => exact ⟨0, 0, by simp [Hid], Nat.zero_le _, rfl, HO0, HB2⟩
  case round =>
    obtain ⟨k, p, HP, hp, rfl, HW, HBe⟩ := hrel
    clear HO0 HB2
    by_cases hlt : p + s ≤ N
    · have HP1 : Hid (Has wr (cutA a0 c0 p 1) (vals (L.drop p))) := by
        rw [vals_drop]
        exact (HH.out.cutA (k := p) (by rw [vals_length, HL.out]; exact hN2)).bel HBe.out
      have HP2 : Hid (Has wr (cutA a0 c0 p 1) (vals ((L.drop p).take s))) := by
        rw [vals_take]
        exact HP1.out.take s
      have HX : Hid (((L.drop p).take s).length = s) := by
        rw [List.length_take, List.length_drop, HL.out]
        show min s (N - p) = s
        omega
      have HX2 : Hid (be s (val ((L.drop p).take s)) = (L.drop p).take s) := by
        have := be_val ((L.drop p).take s)
        rw [HX.out] at this
        exact this
      have HX3 : Hid (val ((L.drop p).take s) < 256 ^ s) := val_take_lt _ _
      have HX4 : Hid (rowb s (chunks s L (k + 1)) = L.take ((k + 1) * s)) := chunks_row s L (k + 1) (by rw [HL.out, Nat.add_mul, Nat.one_mul, ← HP.out]; omega)
      have hxs : (L.drop p).length = N - p := by rw [List.length_drop, HL.out]
      have HXS := Lib.hid hxs
      clear hxs
      go_wp2_with fail
      refine (take_ok _ _ _ (L.drop p) _ _ HXS.out (by unfold maxLen; omega) HP1.out hs1 hs2 (by omega)).mono ?_
      rintro e w' ⟨rfl, rfl⟩
      rw [Int.toNat_natCast]
      obtain ⟨x, hx⟩ : ∃ x, x = val ((L.drop p).take s) := ⟨_, rfl⟩
      rw [← hx]
      have hx0 : 0 ≤ (x : Int) := by omega
      have HXX := Lib.hid hx
      clear hx
      go_wp2_with fail
      refine (put_ok _ _ _ hs1 hs2 hx0 (by rw [Int.toNat_natCast, Int.toNat_natCast, HXX.out]; exact HX3.out)).mono ?_
      rintro e w' ⟨rfl, rfl⟩
      rw [Int.toNat_natCast, Int.toNat_natCast, show be s x = (L.drop p).take s from by rw [HXX.out]; exact HX2.out]
      have p1 := Has.new wr (vals ((L.drop p).take s)) 5 (0, 0)
      have p2 := HP2.out.alloc (.cells (vals ((L.drop p).take s)).toArray 5)
      have HB3 := Lib.hid (HBe.out.alloc HBe.out.size (.cells (vals ((L.drop p).take s)).toArray 5))
      have HW3 := Lib.hid (HW.out.alloc (.cells (vals ((L.drop p).take s)).toArray 5))
      go_wp2_with fail
      obtain ⟨Y, hY⟩ : ∃ Y, (L.drop p).take s = Y := ⟨_, rfl⟩
      rw [hY] at p1 p2 HB3 HW3 HX
      rw [hY]
      have HY := Lib.hid hY
      clear hY
      generalize wr.alloc (.cells (vals Y).toArray 5) = W at *
      have c1 := fun k => run_string_of (P := Try.prog) (W.drewN k) 23 5 9 Try.underlying23 Try.underlying5 Try.underlying9 _ s s _ HX.out (p1.drewN k)
      have c2 := fun k => run_string_of (P := Try.prog) (W.drewN k) 23 5 9 Try.underlying23 Try.underlying5 Try.underlying9 _ s (c0 - p) _ HX.out (p2.drewN k)
      have HP3 := Lib.hid p2
      clear p1 p2
      go_quiet (fail)
      clear c1 c2
      obtain ⟨i0, hi0, hz0, hz1, hz2⟩ := info_parts int_info
      have hkN : k ≤ N := by
        have h1 : k * 1 ≤ k * s := Nat.mul_le_mul_left _ (by omega)
        rw [Nat.mul_one, ← HP.out] at h1
        omega
      go_wp2_with (at_builtin; go_must (refine wpList_append_has _ rfl (.tmp 66) (.tmp 68) _ rfl w.heap.size 3 i0 (.int .i64 0) 8 Try.underlying22 hi0 hz0 hz1 hz2 rfl _ k _ rfl ((own_drewN HW3.out nq).alloc _) _ 1 _ (ints [(x : Int)]) rfl rfl (Has.new (W.drewN nq) (ints [(x : Int)]) _ _) (ints_one _) (by unfold maxLen; omega) (by omega) (by have := HB3.out.size; simp only [World.size_alloc, World.heap_drewN]; omega) ?_); intro v' w2 hown2 hgrow2 _; have HO := Lib.hid hown2; have HG := Lib.hid hgrow2; clear hown2 hgrow2)
      go_roundw
      case rel =>
        refine ⟨k + 1, p + s, ?_, hlt, by go_num, ?_, ?_⟩
        · rw [Nat.add_mul, Nat.one_mul, ← HP.out]
          exact rfl
        · rw [chunks_succ, ints_append, ← HP.out, HY.out]
          have h := HO.out
          rw [HXX.out, HY.out] at h
          exact h
        · have hz := HB3.out.size
          exact (((drewN_below HB3.out nq).alloc hz _).grown HG.out (by simp only [World.size_alloc, World.heap_drewN]; omega) (fun g hg => (HW3.out.lt g hg).1))
      case measure => simp [intOf]; omega
    · obtain ⟨A, c, rfl, hkc, hcm, hcl, hcA⟩ := Sl.of_own HW.out
      have HA := Lib.hid hcA
      have HCM := Lib.hid hcm
      have HCL := Lib.hid hcl
      clear hcA hcm hcl
      have hkN : k ≤ N := by
        have h1 : k * 1 ≤ k * s := Nat.mul_le_mul_left _ (by omega)
        rw [Nat.mul_one, ← HP.out] at h1
        omega
      go_wp2_with fail
      refine (take_short _ _ _ _ _ hs1 hs2 (by omega)).mono ?_
      rintro e w' ⟨rfl, rfl⟩
      go_wp2_with fail
      refine (row_ok _ _ _ (chunks s L k) _ _ (chunks_length _ _ _) (by omega) HA.out hs1 hs2 (by rw [Int.toNat_natCast]; exact chunks_fit s L k)).mono ?_
      rintro e w2 ⟨v2, rfl, hown2, hb2⟩
      rw [Int.toNat_natCast, chunks_row s L k (by rw [HL.out, ← HP.out]; exact hp), ← HP.out] at hown2
      obtain ⟨A2, c2, rfl, hpc2, hcm2, hcl2, hcA2⟩ := Sl.of_own hown2
      have HB4 := Lib.hid (HBe.out.trans (hb2.mono HBe.out.size))
      have p1 : Has w2 a0 (vals (L.take p)) := by
        rw [vals_take]
        exact (HH.out.bel HB4.out).take p
      have hLp : (L.take p).length = p := by rw [List.length_take, HL.out]; omega
      have HLP := Lib.hid hLp
      clear hown2 hcl2 hcm2 hLp hb2
      go_wp2_with fail
      refine (row_bad _ _ _ (by omega)).mono ?_
      rintro e w' ⟨rfl, rfl⟩
      have c1 := fun k => run_string_of (P := Try.prog) (w2.drewN k) 23 5 9 Try.underlying23 Try.underlying5 Try.underlying9 A2 p c2 _ HLP.out (hcA2.drewN k)
      have c2' := fun k => run_string_of (P := Try.prog) (w2.drewN k) 23 5 9 Try.underlying23 Try.underlying5 Try.underlying9 a0 p c0 _ HLP.out (p1.drewN k)
      clear p1 hcA2
      go_wp2_with fail
      generalize L.take p = Y at *
      go_quiet (fail)
      go_wp2
      go_ret
      exact ⟨rfl, drewN_below HB4.out _⟩
end Go.Proofs.Ytnhhpdjcipfdjaa
