/- Contracts of package frame: Section, Open; of bytes.Clone. -/
import Derived.Test.YtlobajlodbdeiaaDoorGroup
import Derived.Test.YtlobajlodbdeiaaDoorFrmMath
import Derived.Laws.MakeOwn
import Derived.Deep.RegionWith
import Derived.WalkMore
import Derived.Deep.DeepCutAuto
import Derived.Deep.RegionHeld3
namespace Go.Proofs.YtlobajlodbdeiaaDoor
open Go.RowKit
set_option linter.unusedVariables false
set_option linter.unusedSimpArgs false
attribute [local go_sem ↓] sliced_cut
attribute [local go_sem] cutA_zero

theorem clone_any (v : Value) (l : List UInt8) (w : World) (hv : IsB w v l) (hn : (l.length : Int) ≤ 1099511627776) : Calls Tryd.prog 31 #[v] w fun e w' =>
    ∃ v', e = .returned v' ∧ IsB w' v' l ∧ Below w.heap.size w w' := by
  obtain ⟨A, n, c, rfl, hnc, hcm, hl, hA⟩ := hv
  subst hl
  rcases A with _ | ad
  · have hl0 : l = [] := by
      cases l with
      | nil => rfl
      | cons a l => exact absurd (hA (by simp [vals])) (by simp)
    subst hl0
    have kn := fun (w : World) (a : Option Addr) (n c : Nat) => Lib.run_eql_slice_nil (P := Tryd.prog) w 22 5 a n c 0 0 Tryd.underlying22
    clear hA
    go_enter Tryd.func31, Tryd.ntmps31
    go_wp2_with fail
    go_ret
    exact ⟨_, rfl, IsB.nil_ _, Below.refl _ _⟩
  · have HA := Lib.hid hA
    have HOL := Lib.hid (World.ownsRow_lit (e := 5) (size := 1) w #[] 0 (Nat.le_refl _) (by decide) rfl)
    have HXL : Hid ((vals l).length = l.length) := vals_length l
    have HI := Lib.hid byte_info
    clear hA
    obtain ⟨N, hN⟩ : ∃ N, l.length = N := ⟨_, rfl⟩
    rw [hN] at hn hnc HXL
    rw [hN]
    clear hN
    obtain ⟨i0, hi0, hz0, hz1, hz2⟩ := info_parts HI.out
    have kn := fun (w : World) (a : Option Addr) (n c : Nat) => Lib.run_eql_slice_nil (P := Tryd.prog) w 22 5 a n c 0 0 Tryd.underlying22
    go_enter Tryd.func31, Tryd.ntmps31
    go_wp2_with (at_builtin; refine wpList_append_has _ rfl (.tmp 5) (.tmp 6) _ rfl w.heap.size 5 i0 (.int .u8 0) 1 Tryd.underlying22 hi0 hz0 hz1 hz2 rfl _ 0 [] rfl HOL.out _ N _ (vals l) rfl HXL.out (HA.out.alloc _) (vals_one _) (by unfold maxLen; omega) (by omega) (by simp only [World.size_alloc]; omega) ?_; intro v2 w2 hown2 hgrow2 _; have HO := Lib.hid hown2; have HG := Lib.hid hgrow2; clear hown2 hgrow2)
    go_ret
    refine ⟨_, rfl, ?_, ?_⟩
    · have h := HO.out
      rw [List.nil_append] at h
      exact IsB.of_own h
    · exact ((Below.refl _ _).alloc (Nat.le_refl _) _).grown HG.out (by simp only [World.size_alloc]; omega) (fun q hq => (HOL.out.lt q hq).1)

theorem one_cell (w : World) (b : UInt8) (fr : Nat × Nat) : Has (w.alloc (.cells #[.int .u8 (b.toNat : Int)] 5 fr)) (some ⟨w.heap.size, 0, none⟩) (vals [b]) := Has.new w (vals [b]) 5 fr
set_option maxRecDepth 100000 in
set_option maxHeartbeats 1000000 in
theorem section_any (tag : UInt8) (v : Value) (l : List UInt8) (w : World) (hv : IsB w v l) (hn : (l.length : Int) ≤ 1099511627776) :
    Calls Tryd.prog 13 #[.int .u8 (tag.toNat : Int), v] w fun e w' =>
    ∃ v', e = .returned (.tuple #[v', .int .i64 (sectF tag l).2]) ∧ IsB w' v' (sectF tag l).1 ∧ Below w.heap.size w w' := by
  obtain ⟨A, n, c, rfl, hnc, hcm, hl, hA⟩ := hv
  have HA := Lib.hid hA
  have HL := Lib.hid hl
  rw [hl] at hn
  have HI := Lib.hid byte_info
  clear hA
  by_cases hb : (n : Int) ≤ 268435455
  · have HS : Hid (sectF tag l = (tag :: (grp n ++ l), 0)) := by show _ = _; rw [sectF, hl, if_pos (by omega)]
    clear hl
    obtain ⟨s, Hs, hs1, hs2⟩ : ∃ s : Nat, Hid (gsize n = s) ∧ 1 ≤ (s : Int) ∧ (s : Int) ≤ 4 := ⟨gsize n, rfl, by have := gsize_pos n; omega, by have := gsize_pos n; omega⟩
    go_enter Tryd.func13, Tryd.ntmps13
    go_wp2_with fail
    refine (gput_core n s w hb Hs).mono ?_
    rintro e w1 ⟨rfl, rfl⟩
    have HG1 := Lib.hid (Has.new w (vals (grp n)) 5 (0, 0))
    have HB1 := Lib.hid ((Below.refl w.heap.size w).alloc (Nat.le_refl _) (.cells (vals (grp n)).toArray 5))
    have HGL : Hid ((vals (grp n)).length = s) := by show _ = _; rw [vals_length, grp_length]; exact Hs.out
    have HXL : Hid ((vals l).length = n) := by show _ = _; rw [vals_length]; exact HL.out
    generalize w.alloc (.cells (vals (grp n)).toArray 5) = w1 at *
    obtain ⟨i0, hi0, hz0, hz1, hz2⟩ := info_parts HI.out
    have hmk : ∀ W, (Instr.makeSlice 22 (.int .i64 0) (.int .i64 (1 + (s : Int) + (n : Int)))).run Tryd.prog W = .ok (.slice (some ⟨W.heap.size, 0, none⟩) 0 (1 + s + n)) (W.alloc (.cells (madeCells #[.int .u8 0] (1 + s + n)) 5)) := fun W => by
      have := run_make (P := Tryd.prog) W 22 5 i0 (.int .u8 0) Tryd.underlying22 hi0 hz0 .i64 .i64 0 (1 + (s : Int) + (n : Int)) (by omega) (by omega) (by rw [hz2]; omega) (by omega)
      rw [this, hz1, show (1 + (s : Int) + (n : Int)).toNat = 1 + s + n from by omega, Int.toNat_zero, Nat.mul_one]
      rfl
    have HM := Lib.hid (World.ownsRow_made (e := 5) (size := 1) w1 (madeCells #[.int .u8 0] (1 + s + n)) (1 + s + n) (Nat.le_refl _) (by unfold maxLen; omega) (by rw [size_madeCells, Nat.mul_one]))
    have HT : Hid (Has ((w1.alloc (.cells (madeCells #[.int .u8 0] (1 + s + n)) 5)).alloc (.cells #[.int .u8 (tag.toNat : Int)] 5)) (some ⟨w1.heap.size + 1, 0, none⟩) (vals [tag])) := by
      have := one_cell (w1.alloc (.cells (madeCells #[.int .u8 0] (1 + s + n)) 5)) tag (0, 0)
      rw [World.size_alloc] at this
      exact this
    have HBM : Hid (Below w.heap.size w ((w1.alloc (.cells (madeCells #[.int .u8 0] (1 + s + n)) 5)).alloc (.cells #[.int .u8 (tag.toNat : Int)] 5))) :=
      (HB1.out.alloc HB1.out.size _).alloc (by have := HB1.out.size; simp only [World.size_alloc]; omega) _
    have HGM : Hid (Has ((w1.alloc (.cells (madeCells #[.int .u8 0] (1 + s + n)) 5)).alloc (.cells #[.int .u8 (tag.toNat : Int)] 5)) (some ⟨w.heap.size, 0, none⟩) (vals (grp n))) := (HG1.out.alloc _).alloc _
    have HLT : Hid (w.heap.size < w1.heap.size) := by
      obtain ⟨ad, he, hc⟩ := HG1.out (by rw [HGL.out]; omega)
      injection he with he
      subst he
      exact World.block_lt_of_cell? w1 _ (hc 0 _ (List.getElem?_eq_getElem (by rw [HGL.out]; omega)))
    go_upto_region 6 with (at_builtin; refine wpList_append_has _ rfl (.tmp 25) (.tmp 27) _ rfl w1.heap.size 5 i0 (.int .u8 0) 1 Tryd.underlying22 hi0 hz0 hz1 hz2 rfl (.slice (some ⟨w1.heap.size, 0, none⟩) 0 (1 + s + n)) 0 [] rfl (HM.out.alloc _) _ 1 _ (vals [tag]) rfl rfl HT.out (vals_one _) (by unfold maxLen; omega) (by omega) (by simp only [World.size_alloc]; omega) ?_; intro v2 w2 hown2 hgrow2 _; have HO2 := Lib.hid hown2; have HG2 := Lib.hid hgrow2; clear hown2 hgrow2)
    have HBM2 : Hid (Below w1.heap.size w1 w2) := (((Below.refl _ _).alloc (Nat.le_refl _) _).alloc (by simp) _).grown HG2.out (by simp; omega) (fun q hq => (HM.out.lt q hq).1)
    have HGM2 := Lib.hid (HG1.out.bel HBM2.out)
    have HS2 := Lib.hid HBM2.out.size
    clear HG2 HM HT HGM HBM hmk
    go_upto_region 7 with (at_builtin; refine wpList_append_has _ rfl (.tmp 29) (.tmp 30) _ rfl w1.heap.size 5 i0 (.int .u8 0) 1 Tryd.underlying22 hi0 hz0 hz1 hz2 rfl v2 (0 + 1) _ rfl HO2.out _ s _ (vals (grp n)) rfl HGL.out HGM2.out (vals_one _) (by unfold maxLen; omega) (by omega) HS2.out ?_; intro v3 w3 hown3 hgrow3 _; have HO3 := Lib.hid hown3; have HG3 := Lib.hid hgrow3; clear hown3 hgrow3)
    have HBM3 : Hid (Below w1.heap.size w1 w3) := HBM2.out.grown HG3.out HS2.out (fun q hq => (HO2.out.lt q hq).1)
    have HS3 := Lib.hid HBM3.out.size
    have HBW3 := Lib.hid (HB1.out.trans (HBM3.out.mono HB1.out.size))
    have HA3 := Lib.hid (HA.out.bel HBW3.out)
    clear HG3 HO2 HGM2 HBM2 HS2
    go_wp2_with (at_builtin; refine wpList_append_has _ rfl (.tmp 32) (.tmp 33) _ rfl w1.heap.size 5 i0 (.int .u8 0) 1 Tryd.underlying22 hi0 hz0 hz1 hz2 rfl v3 (0 + 1 + s) _ rfl HO3.out _ n _ (vals l) rfl HXL.out HA3.out (vals_one _) (by unfold maxLen; omega) (by omega) HS3.out ?_; intro v4 w4 hown4 hgrow4 _; have HO4 := Lib.hid hown4; have HG4 := Lib.hid hgrow4; clear hown4 hgrow4)
    go_ret2
    rw [HS.out]
    refine ⟨_, rfl, ?_, ?_⟩
    · have h := HO4.out
      rw [List.nil_append, ← vals_append, ← vals_append] at h
      exact IsB.of_own h
    · exact HB1.out.trans ((HBM3.out.grown HG4.out HS3.out (fun q hq => (HO3.out.lt q hq).1)).mono HB1.out.size)
  · have HS : Hid (sectF tag l = ([], 1)) := by show _ = _; rw [sectF, hl, if_neg (by omega)]
    clear hl
    go_enter Tryd.func13, Tryd.ntmps13
    go_wp2_with fail
    refine (gput_no n w (by omega)).mono ?_
    rintro e w1 ⟨rfl, rfl⟩
    go_wp2_with fail
    go_ret2
    rw [HS.out]
    exact ⟨_, rfl, IsB.nil_ _, Below.refl _ _⟩
end Go.Proofs.YtlobajlodbdeiaaDoor
