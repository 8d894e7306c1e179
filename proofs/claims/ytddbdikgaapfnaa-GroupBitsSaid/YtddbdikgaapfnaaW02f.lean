/- The walks of the laws of package theseuslaw02: GroupBits. -/
import Derived.Test.YtddbdikgaapfnaaL02
import Derived.Test.YtddbdikgaapfnaaFrame
namespace Go.Proofs.Ytddbdikgaapfnaa
open Go.RowKit
set_option linter.unusedVariables false
set_option linter.unusedSimpArgs false

theorem u8_or_byte (x y : UInt8) (h : x.toNat = y.toNat ||| 128) : bits .or .u8 (y.toNat : Int) 128 = (x.toNat : Int) := by
  have h8 : ∀ z : Fin 256, bits .or .u8 ((z.val : Nat) : Int) 128 = ((z.val ||| 128 : Nat) : Int) := by decide +kernel
  have := h8 ⟨y.toNat, y.toNat_lt⟩
  rw [h]
  exact this
set_option maxRecDepth 100000 in
set_option maxHeartbeats 1000000 in
theorem walkGroupBits (a0 : Int) (w : World) (w0 : (Lit.int .u32 a0).wf = true) :
    Calls Try.prog 8 #[.int .u32 a0] w fun e w' => e = .returned (.bool true) ∧ Below w.heap.size w w' := by
  obtain ⟨hl0, hh0⟩ := bounds_u32 w0
  clear w0
  obtain ⟨m, rfl⟩ := Int.eq_ofNat_of_zero_le hl0
  obtain ⟨x, hx, hax⟩ := mask28 m (by omega)
  obtain ⟨s, HS, hs1, hs2⟩ := size_pack x
  have HLA : Hid ((grp x)[s - 1]? = some (UInt8.ofNat (x % 128))) := by
    show _ = _
    rw [← HS.out]
    exact grp_last x
  have HXL : Hid ((grp x).length = s) := by show _ = _; rw [grp_length]; exact HS.out
  go_enter Try.func8, Try.ntmps8
  go_wp2_with fail
  refine (shown2 _).mono ?_
  rintro e w1 ⟨rfl, hb1⟩
  have HB1 := Lib.hid hb1
  clear hb1
  go_wp2_with fail
  refine (gput_core x s _ hx HS).mono ?_
  rintro e w' ⟨rfl, rfl⟩
  clear hax
  have p1 := Lib.hid (Has.new w1 (vals (grp x)) 5 (0, 0))
  have HB := Lib.hid (HB1.out.alloc HB1.out.size (.cells (vals (grp x)).toArray 5))
  have hsz : w1.heap.size < (w1.alloc (.cells (vals (grp x)).toArray 5)).heap.size := by simp
  generalize w1.alloc (.cells (vals (grp x)).toArray 5) = W at *
  have hcell : W.cell? ⟨w1.heap.size, s - 1, none⟩ = some (.int .u8 ((x : Int) % 128)) := by
    obtain ⟨ad, he, hc⟩ := p1.out (by rw [vals_length, HXL.out]; omega)
    injection he with he
    subst he
    have h := hc (s - 1) (.int .u8 ((x : Int) % 128)) (by
      rw [vals, List.getElem?_map, HLA.out]
      simp only [Option.map_some, toNat_ofNat_lt (show x % 128 < 256 by omega)]
      rfl)
    rw [add_plain, Nat.zero_add] at h
    exact h
  have hx0 : 0 ≤ (x : Int) := by omega
  by_cases hx1 : x < 128
  · have hsn : s = 1 := by
      rcases size_cases x with ⟨h1, h2⟩ | ⟨h1, h3, h2⟩ | ⟨h1, h3, h2⟩ | ⟨h1, h2⟩ <;> first | omega | (rw [← HS.out]; exact h2)
    have hbeq : ((s : Int) == 1) = true := beq_iff_eq.2 (by omega)
    clear hsn hsz
    go_wp2_with fail
    go_ret
    exact ⟨rfl, HB.out⟩
  · obtain ⟨t, HT, ht1, ht2⟩ := size_pack (x / 128)
    have hup := size_up x (by omega) (by omega)
    rw [HS.out, HT.out] at hup
    have hne : (((t : Int) + 1) != (s : Int)) = false := by rw [bne_eq_false_iff_eq]; omega
    have HUP := Lib.hid hup
    clear hup
    have hxq : ((x / 128 : Nat) : Int) ≤ 268435455 := by omega
    have HYL : Hid ((grp (x / 128)).length = t) := by show _ = _; rw [grp_length]; exact HT.out
    go_wp2_with fail
    refine (gput_core (x / 128) t _ hxq HT).mono ?_
    rintro e w' ⟨rfl, rfl⟩
    have p2 := Lib.hid (Has.new W (vals (grp (x / 128))) 5 (0, 0))
    have p3 := Lib.hid (p1.out.alloc (.cells (vals (grp (x / 128))).toArray 5))
    have HB2 := Lib.hid (HB.out.alloc HB.out.size (.cells (vals (grp (x / 128))).toArray 5))
    clear p1 HB hcell hsz
    generalize W.alloc (.cells (vals (grp (x / 128))).toArray 5) = W2 at *
    generalize W.heap.size = g at *
    generalize w1.heap.size = g1 at *
    go_wp2_with fail
    go_loopw [9] (fun i wr => ∃ k : Nat, k ≤ t ∧ i = .int .i64 k ∧ Hid (Below w.heap.size w wr) ∧ Hid (Has wr (some ⟨g1, 0, none⟩) (vals (grp x))) ∧ Hid (Has wr (some ⟨g, 0, none⟩) (vals (grp (x / 128))))) (fun i _ => t - (intOf i).toNat)
    case atStart => exact ⟨0, Nat.zero_le _, rfl, HB2, p3, p2⟩
    case round =>
      obtain ⟨k, hk, rfl, HBe, HPr, HQr⟩ := hrel
      clear p2 p3 HB2
      by_cases hlt : k < t
      · have hkx : k < (grp x).length := by rw [HXL.out, ← HUP.out]; omega
        have hky : k < (grp (x / 128)).length := by rw [HYL.out]; exact hlt
        have hks : (k : Int) < (s : Int) := by rw [← HUP.out]; omega
        obtain ⟨ad, he, hcx⟩ := HPr.out.at_ (k := k) (by rw [vals_length]; exact hkx)
        injection he with he
        subst he
        obtain ⟨ad, he, hcy⟩ := HQr.out.at_ (k := k) (by rw [vals_length]; exact hky)
        injection he with he
        subst he
        rw [vals_at _ _ hkx, add_plain, Nat.zero_add] at hcx
        rw [vals_at _ _ hky, add_plain, Nat.zero_add] at hcy
        have hor := u8_or_byte _ _ (grp_up x k (by omega) (by omega) (by rw [HT.out]; exact hlt) _ _ (List.getElem?_eq_getElem hkx) (List.getElem?_eq_getElem hky))
        generalize (grp x)[k] = bx at *
        generalize (grp (x / 128))[k] = bY at *
        go_wp2_with fail
        go_quiet (fail)
        go_wp2_with fail
        go_roundw
        case rel => exact ⟨k + 1, by omega, by go_num, drewN_below HBe.out nq, HPr.out.drewN nq, HQr.out.drewN nq⟩
        case measure => simp [intOf]; omega
      · go_wp2_with fail
        go_ret
        exact ⟨rfl, HBe.out⟩
end Go.Proofs.Ytddbdikgaapfnaa
