/- The walks of the laws of package theseuslaw05: AddrAll. -/
import Derived.Test.YtjloiljiighghaaDoorL05
import Derived.Test.YtjloiljiighghaaDoorRef05
import Derived.Deep.DeepCutAuto
import Derived.Deep.RegionHeld3
namespace Go.Proofs.YtjloiljiighghaaDoor
open Go.RowKit
set_option linter.unusedVariables false
set_option linter.unusedSimpArgs false

theorem bit_q (a n : Nat) (i : Int) (w : World) (ha : (a : Int) ≤ 4294967295) :
    Calls Tryd.prog 12 #[.int .u32 a, .int .i64 i] (w.drewN n) fun e w' => e = .returned (.int .i64 (bitF a i : Int)) ∧ w' = w.drewN n :=
  (bit_any a i (w.drewN n) ha).mono fun e w' ⟨h1, h2⟩ => ⟨h1, h2.symm⟩
theorem rbit_q (a n : Nat) (i : Int) (w : World) (ha : (a : Int) ≤ 4294967295) :
    Calls Tryd.prog 13 #[.int .u32 a, .int .i64 i] (w.drewN n) fun e w' => e = .returned (.int .i64 (bitF a i : Int)) ∧ w' = w.drewN n :=
  (rbit_any a i (w.drewN n) ha).mono fun e w' ⟨h1, h2⟩ => ⟨h1, h2.symm⟩
set_option maxRecDepth 100000 in
set_option maxHeartbeats 4000000 in
theorem walkAddrAll (l0 : List Int) (s : ByteArray) (a2 : Int) (w : World) (ht : Hid (Tab w)) (w0 : l0.length = 2 ∧ ∀ x ∈ l0, (Lit.int .u32 x).wf = true) (w1 : s.size ≤ maxLen) (w2 : (Lit.int .i64 a2).wf = true) :
    Calls Tryd.prog 3 #[.agg (l0.map (Value.int .u32)).toArray, .string s, .int .i64 a2] w fun e w' => e = .returned (.bool true) ∧ Below w.heap.size w w' := by
  obtain ⟨hlen, hwf⟩ := w0
  obtain ⟨x, y, rfl⟩ : ∃ x y, l0 = [x, y] := by
    match l0, hlen with
    | [x, y], _ => exact ⟨x, y, rfl⟩
  obtain ⟨hlx, hhx⟩ := bounds_u32 (hwf x (by simp))
  obtain ⟨hly, hhy⟩ := bounds_u32 (hwf y (by simp))
  obtain ⟨a, rfl⟩ := Int.eq_ofNat_of_zero_le hlx
  obtain ⟨b, rfl⟩ := Int.eq_ofNat_of_zero_le hly
  clear hwf hlen hlx hly
  have ha : (a : Int) ≤ 4294967295 := by omega
  have hb : (b : Int) ≤ 4294967295 := by omega
  clear hhx hhy
  obtain ⟨f, hf, HF, CF⟩ := few5 s w1
  have hfm : f.size ≤ maxLen := by unfold maxLen; omega
  have P1 := Lib.hid (fun w => parse_any f w hfm)
  have P2 := Lib.hid (fun w ht => rparse_any f w hfm ht)
  have hq1 := pa_lt f.data.toList
  generalize pa f.data.toList = c at *
  generalize pe f.data.toList = g1 at *
  have hc : (c : Int) ≤ 4294967295 := by omega
  clear w1 hfm HF hq1
  go_enter Tryd.func3, Tryd.ntmps3
  go_wp2_with fail
  have hb0 : Below w.heap.size w (w.alloc (.cells #[.int .u32 a, .int .u32 b] 23)) := (Below.refl _ _).alloc (Nat.le_refl _) _
  have hcx : (w.alloc (.cells #[.int .u32 a, .int .u32 b] 23)).cell? ⟨w.heap.size, 0, none⟩ = some (.int .u32 a) := by rw [World.cell?_alloc_mark]; rfl
  have hcy : (w.alloc (.cells #[.int .u32 a, .int .u32 b] 23)).cell? ⟨w.heap.size, 1, none⟩ = some (.int .u32 b) := by rw [World.cell?_alloc_mark]; rfl
  have hsz : w.heap.size < (w.alloc (.cells #[.int .u32 a, .int .u32 b] 23)).heap.size := by simp
  have hT := ht.out.bel hb0
  generalize hW : w.alloc (.cells #[.int .u32 a, .int .u32 b] 23) = W at *
  obtain ⟨g, hg⟩ : ∃ g, w.heap.size = g := ⟨_, rfl⟩
  have HQ : Hid (∀ wx, Below W.heap.size W wx → wx.cell? ⟨g, 0, none⟩ = some (.int .u32 a) ∧ wx.cell? ⟨g, 1, none⟩ = some (.int .u32 b) ∧ Tab wx) := fun wx hx => by
    subst hg
    exact ⟨by rw [hx.cell (p := ⟨w.heap.size, 0, none⟩) hsz]; exact hcx, by rw [hx.cell (p := ⟨w.heap.size, 1, none⟩) hsz]; exact hcy, hT.bel hx⟩
  have HB0 : Hid (Below w.heap.size w W) := hb0
  have HSW : Hid (w.heap.size ≤ W.heap.size) := hb0.size
  rw [hg]
  clear hcx hcy hsz hb0 hg hT hW
  refine (shown5 W (Lib.hid (HQ.out W (Below.refl _ _)).2.2)).mono ?_
  rintro e1 w1 ⟨rfl, hb1⟩
  have HB1 := Lib.hid hb1
  clear hb1
  go_wp2_with fail
  refine (CF.out _).mono ?_
  rintro e1 w2 ⟨rfl, rfl⟩
  go_wp2_with fail
  refine (P1.out _).mono ?_
  rintro e1 w2 ⟨rfl, rfl⟩
  go_wp2_with fail
  refine (CF.out _).mono ?_
  rintro e1 w2 ⟨rfl, rfl⟩
  go_wp2_with fail
  refine (P2.out _ (Lib.hid (HQ.out _ HB1.out).2.2)).mono ?_
  rintro e1 w2 ⟨rfl, hb2⟩
  have HB2 := Lib.hid (HB1.out.trans (hb2.mono HB1.out.size))
  clear hb2 HB1
  go_wp2_with fail
  go_loopw [12] (fun i wr => ∃ (k : Nat) (z : Int), k ≤ 34 ∧ i = .int .i64 z ∧ Hid (z = (k : Int) - 1) ∧ -1 ≤ z ∧ z ≤ 33 ∧ Hid (Below W.heap.size W wr)) (fun i _ => (33 - intOf i).toNat)
  case atStart => exact ⟨0, -1, by omega, rfl, rfl, by omega, by omega, HB2⟩
  case round =>
    obtain ⟨k, z, hk, rfl, HZ, hz0, hz1, HBr⟩ := hrel
    have hq := (HQ.out wr HBr.out).1
    by_cases hlt : z < 33
    · have t1 : ((bitF a z : Int) == (bitF a z : Int)) = true := by simp
      have t2 : ((bitF a z : Int) != (bitF a z : Int)) = false := by simp
      go_wp2_with fail
      go_quiet ((first | (go_at_call 12; with_reducible exact Calls.quiet_of_same (bit_q _ _ _ _ ha)) | (go_at_call 13; with_reducible exact Calls.quiet_of_same (rbit_q _ _ _ _ ha))))
      go_wp2_with fail
      go_roundw
      case rel => exact ⟨k + 1, z + 1, by have := HZ.out; omega, rfl, by have := HZ.out; show _ = _; omega, by omega, by omega, drewN_below HBr.out nq⟩
      case measure => simp [intOf]; omega
    · obtain rfl : z = 33 := by omega
      have hq2 := (HQ.out wr HBr.out).2.1
      obtain ⟨d, hd⟩ : ∃ d : ByteArray, ⟨(txt a).toArray⟩ = d := ⟨_, rfl⟩
      have P3 := Lib.hid (fun w ht => print_any a w ha ht)
      have P4 := Lib.hid (fun w ht => rprint_any a w ha ht)
      rw [hd] at P3 P4
      have P5 := Lib.hid (fun w => bit_any a a2 w ha)
      have P6 := Lib.hid (fun w => rbit_any a a2 w ha)
      generalize bitF a a2 = v at *
      have P7 := Lib.hid (fun w => common_any a b w ha hb)
      have P8 := Lib.hid (fun w => rcommon_any a b w ha hb)
      generalize com a b = n at *
      have HD7 := Lib.hid HBr.out.drew
      clear hd HZ
      go_upto_region 9 with fail
      go_cut [6] (fun r wx => r = .bool true ∧ Hid (Below W.heap.size W wx))
      case first =>
        go_region_held3 (fun w' => w'.cell? ⟨g, 0, none⟩ = some (.int .u32 (a : Int)) ∧ w'.cell? ⟨g, 1, none⟩ = some (.int .u32 (b : Int)))
          (first | go_keep | exact ⟨(HQ.out _ HB9.out).1, (HQ.out _ HB9.out).2.1⟩ | exact ⟨(HQ.out _ HB8.out).1, (HQ.out _ HB8.out).2.1⟩)
          (first
            | (go_simp; go_at_call 14; refine (P3.out _ (Lib.hid (HQ.out _ HD7.out).2.2)).mono ?_; rintro e w8 ⟨rfl, hb8⟩; have HB8 := Lib.hid (HD7.out.trans (hb8.mono HD7.out.size)); clear hb8)
            | (go_simp; go_at_call 15; refine (P4.out _ (Lib.hid (HQ.out _ HB8.out).2.2)).mono ?_; rintro e w9 ⟨rfl, hb9⟩; have HB9 := Lib.hid (HB8.out.trans (hb9.mono HB8.out.size)); clear hb9)
            | (go_simp; go_at_call 12; refine (P5.out _).mono ?_; rintro e w' ⟨rfl, rfl⟩)
            | (go_simp; go_at_call 13; refine (P6.out _).mono ?_; rintro e w' ⟨rfl, rfl⟩)
            | (go_simp; go_at_call 16; refine (P7.out _).mono ?_; rintro e w' ⟨rfl, rfl⟩)
            | (go_simp; go_at_call 17; refine (P8.out _).mono ?_; rintro e w' ⟨rfl, rfl⟩))
        all_goals
          go_wp2_with fail
          go_meet
          exact ⟨rfl, HB9⟩
      case rest =>
        obtain ⟨rfl, HBc⟩ := hcut
        go_wp2_with fail
        go_ret
        exact ⟨rfl, HB0.out.trans (HBc.out.mono HSW.out)⟩
end Go.Proofs.YtjloiljiighghaaDoor
