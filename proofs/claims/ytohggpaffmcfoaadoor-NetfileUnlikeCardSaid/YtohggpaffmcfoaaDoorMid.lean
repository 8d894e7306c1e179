/- Contracts of package frame: Section, Open; of bytes.Clone. | Contract of package frame: Open. | append onto a slice that is full (three indices): it is put into new memory. No function of the program is named here. | Contracts of package frame: Put, Take (word, seal); of bytes.Equal, bytes.HasPrefix. | Contracts of package frame: Put, Take. | Contracts of package theseusref04 (the document's answers for layer 4). | Contracts of package theseusref04: Section, Open. -/
import Derived.Test.YtohggpaffmcfoaaDoorBlk
import Derived.Test.YtohggpaffmcfoaaDoorLow
import Derived.Test.YtohggpaffmcfoaaDoorMath
import Derived.Test.YtohggpaffmcfoaaDoorBase
import Derived.Laws.MakeOwn
import Derived.Deep.RegionWith
import Derived.WalkMore
import Derived.Deep.DeepCutAuto
import Derived.Deep.RegionHeld3
import Derived.ArgAppend
section
namespace Go.Proofs.YtohggpaffmcfoaaDoor
open Go.RowKit
set_option linter.unusedVariables false
set_option maxRecDepth 100000
set_option linter.unusedSimpArgs false
attribute [local go_sem ↓] sliced_cut
attribute [local go_sem] cutA_zero

theorem clone_own (v : Value) (l : List UInt8) (w : World) (hv : IsB w v l) (hn : (l.length : Int) ≤ 1099511627776) : Calls Tryd.prog 87 #[v] w fun e w' =>
    ∃ v', e = .returned v' ∧ OwnB 5 w.heap.size v' l w' ∧ Below w.heap.size w w' := by
  obtain ⟨A, n, c, rfl, hnc, hcm, hl, hA⟩ := hv
  subst hl
  rcases A with _ | ad
  · have hl0 : l = [] := by
      cases l with
      | nil => rfl
      | cons a l => exact absurd (hA (by simp [vals])) (by simp)
    subst hl0
    have kn := fun (w : World) (a : Option Addr) (n c : Nat) => Lib.run_eql_slice_nil (P := Tryd.prog) w 25 5 a n c 0 0 Tryd.underlying25
    clear hA
    go_enter Tryd.func87, Tryd.ntmps87
    go_wp2_with fail
    go_ret
    exact ⟨_, rfl, World.ownsRow_nil _ _ _ _, Below.refl _ _⟩
  · have HA := Lib.hid hA
    have HOL := Lib.hid (World.ownsRow_lit (e := 5) (size := 1) w #[] 0 (Nat.le_refl _) (by decide) rfl)
    have HXL : Hid ((vals l).length = l.length) := vals_length l
    have HI := Lib.hid byte_info
    clear hA
    obtain ⟨N, hN⟩ : ∃ N, l.length = N := ⟨_, rfl⟩
    rw [hN] at hn hnc HXL
    rw [hN]
    clear hN
    obtain ⟨i0, hi0, hz0, hz1, hz2⟩ := info_parts HI.out
    have kn := fun (w : World) (a : Option Addr) (n c : Nat) => Lib.run_eql_slice_nil (P := Tryd.prog) w 25 5 a n c 0 0 Tryd.underlying25
    go_enter Tryd.func87, Tryd.ntmps87
    go_wp2_with (at_builtin; refine wpList_append_has _ rfl (.tmp 5) (.tmp 6) _ rfl w.heap.size 5 i0 (.int .u8 0) 1 Tryd.underlying25 hi0 hz0 hz1 hz2 rfl _ 0 [] rfl HOL.out _ N _ (vals l) rfl HXL.out (HA.out.alloc _) (vals_one _) (by unfold maxLen; omega) (by omega) (by simp only [World.size_alloc]; omega) ?_; intro v2 w2 hown2 hgrow2 _; have HO := Lib.hid hown2; have HG := Lib.hid hgrow2; clear hown2 hgrow2)
    go_ret
    refine ⟨_, rfl, ?_, ?_⟩
    · have h := HO.out
      rw [List.nil_append] at h
      exact OwnB.mk h (Nat.le_refl _)
    · exact ((Below.refl _ _).alloc (Nat.le_refl _) _).grown HG.out (by simp only [World.size_alloc]; omega) (fun q hq => (HOL.out.lt q hq).1)

theorem clone_any (v : Value) (l : List UInt8) (w : World) (hv : IsB w v l) (hn : (l.length : Int) ≤ 1099511627776) : Calls Tryd.prog 87 #[v] w fun e w' =>
    ∃ v', e = .returned v' ∧ IsB w' v' l ∧ Below w.heap.size w w' :=
  (clone_own v l w hv hn).mono fun e w' ⟨v', h1, h2, h3⟩ => ⟨v', h1, h2.isb, h3⟩

theorem one_cell (w : World) (b : UInt8) (fr : Nat × Nat) : Has (w.alloc (.cells #[.int .u8 (b.toNat : Int)] 5 fr)) (some ⟨w.heap.size, 0, none⟩) (vals [b]) := Has.new w (vals [b]) 5 fr
set_option maxRecDepth 100000 in
set_option maxHeartbeats 1000000 in
theorem section_any (tag : UInt8) (v : Value) (l : List UInt8) (w : World) (hv : IsB w v l) (hn : (l.length : Int) ≤ 1099511627776) :
    Calls Tryd.prog 23 #[.int .u8 (tag.toNat : Int), v] w fun e w' =>
    ∃ v', e = .returned (.tuple #[v', .int .i64 (sectF tag l).2]) ∧ IsB w' v' (sectF tag l).1 ∧ Below w.heap.size w w' := by
  obtain ⟨A, n, c, rfl, hnc, hcm, hl, hA⟩ := hv
  have HA := Lib.hid hA
  have HL := Lib.hid hl
  rw [hl] at hn
  have HI := Lib.hid byte_info
  clear hA
  by_cases hb : (n : Int) ≤ 268435455
  · have HS : Hid (sectF tag l = (tag :: (grp n ++ l), 0)) := by show _ = _; rw [sectF, hl, if_pos (by omega)]
    clear hl
    obtain ⟨s, Hs, hs1, hs2⟩ : ∃ s : Nat, Hid (gsize n = s) ∧ 1 ≤ (s : Int) ∧ (s : Int) ≤ 4 := ⟨gsize n, rfl, by have := gsize_pos n; omega, by have := gsize_pos n; omega⟩
    go_enter Tryd.func23, Tryd.ntmps23
    go_wp2_with fail
    refine (gput_core n s w hb Hs).mono ?_
    rintro e w1 ⟨rfl, rfl⟩
    have HG1 := Lib.hid (Has.new w (vals (grp n)) 5 (0, 0))
    have HB1 := Lib.hid ((Below.refl w.heap.size w).alloc (Nat.le_refl _) (.cells (vals (grp n)).toArray 5))
    have HGL : Hid ((vals (grp n)).length = s) := by show _ = _; rw [vals_length, grp_length]; exact Hs.out
    have HXL : Hid ((vals l).length = n) := by show _ = _; rw [vals_length]; exact HL.out
    generalize w.alloc (.cells (vals (grp n)).toArray 5) = w1 at *
    obtain ⟨i0, hi0, hz0, hz1, hz2⟩ := info_parts HI.out
    have hmk : ∀ W, (Instr.makeSlice 25 (.int .i64 0) (.int .i64 (1 + (s : Int) + (n : Int)))).run Tryd.prog W = .ok (.slice (some ⟨W.heap.size, 0, none⟩) 0 (1 + s + n)) (W.alloc (.cells (madeCells #[.int .u8 0] (1 + s + n)) 5)) := fun W => by
      have := run_make (P := Tryd.prog) W 25 5 i0 (.int .u8 0) Tryd.underlying25 hi0 hz0 .i64 .i64 0 (1 + (s : Int) + (n : Int)) (by omega) (by omega) (by rw [hz2]; omega) (by omega)
      rw [this, hz1, show (1 + (s : Int) + (n : Int)).toNat = 1 + s + n from by omega, Int.toNat_zero, Nat.mul_one]
      rfl
    have HM := Lib.hid (World.ownsRow_made (e := 5) (size := 1) w1 (madeCells #[.int .u8 0] (1 + s + n)) (1 + s + n) (Nat.le_refl _) (by unfold maxLen; omega) (by rw [size_madeCells, Nat.mul_one]))
    have HT : Hid (Has ((w1.alloc (.cells (madeCells #[.int .u8 0] (1 + s + n)) 5)).alloc (.cells #[.int .u8 (tag.toNat : Int)] 5)) (some ⟨w1.heap.size + 1, 0, none⟩) (vals [tag])) := by
      have := one_cell (w1.alloc (.cells (madeCells #[.int .u8 0] (1 + s + n)) 5)) tag (0, 0)
      rw [World.size_alloc] at this
      exact this
    have HBM : Hid (Below w.heap.size w ((w1.alloc (.cells (madeCells #[.int .u8 0] (1 + s + n)) 5)).alloc (.cells #[.int .u8 (tag.toNat : Int)] 5))) :=
      (HB1.out.alloc HB1.out.size _).alloc (by have := HB1.out.size; simp only [World.size_alloc]; omega) _
    have HGM : Hid (Has ((w1.alloc (.cells (madeCells #[.int .u8 0] (1 + s + n)) 5)).alloc (.cells #[.int .u8 (tag.toNat : Int)] 5)) (some ⟨w.heap.size, 0, none⟩) (vals (grp n))) := (HG1.out.alloc _).alloc _
    have HLT : Hid (w.heap.size < w1.heap.size) := by
      obtain ⟨ad, he, hc⟩ := HG1.out (by rw [HGL.out]; omega)
      injection he with he
      subst he
      exact World.block_lt_of_cell? w1 _ (hc 0 _ (List.getElem?_eq_getElem (by rw [HGL.out]; omega)))
    go_upto_region 6 with (at_builtin; refine wpList_append_has _ rfl (.tmp 25) (.tmp 27) _ rfl w1.heap.size 5 i0 (.int .u8 0) 1 Tryd.underlying25 hi0 hz0 hz1 hz2 rfl (.slice (some ⟨w1.heap.size, 0, none⟩) 0 (1 + s + n)) 0 [] rfl (HM.out.alloc _) _ 1 _ (vals [tag]) rfl rfl HT.out (vals_one _) (by unfold maxLen; omega) (by omega) (by simp only [World.size_alloc]; omega) ?_; intro v2 w2 hown2 hgrow2 _; have HO2 := Lib.hid hown2; have HG2 := Lib.hid hgrow2; clear hown2 hgrow2)
    have HBM2 : Hid (Below w1.heap.size w1 w2) := (((Below.refl _ _).alloc (Nat.le_refl _) _).alloc (by simp) _).grown HG2.out (by simp; omega) (fun q hq => (HM.out.lt q hq).1)
    have HGM2 := Lib.hid (HG1.out.bel HBM2.out)
    have HS2 := Lib.hid HBM2.out.size
    clear HG2 HM HT HGM HBM hmk
    go_upto_region 7 with (at_builtin; refine wpList_append_has _ rfl (.tmp 29) (.tmp 30) _ rfl w1.heap.size 5 i0 (.int .u8 0) 1 Tryd.underlying25 hi0 hz0 hz1 hz2 rfl v2 (0 + 1) _ rfl HO2.out _ s _ (vals (grp n)) rfl HGL.out HGM2.out (vals_one _) (by unfold maxLen; omega) (by omega) HS2.out ?_; intro v3 w3 hown3 hgrow3 _; have HO3 := Lib.hid hown3; have HG3 := Lib.hid hgrow3; clear hown3 hgrow3)
    have HBM3 : Hid (Below w1.heap.size w1 w3) := HBM2.out.grown HG3.out HS2.out (fun q hq => (HO2.out.lt q hq).1)
    have HS3 := Lib.hid HBM3.out.size
    have HBW3 := Lib.hid (HB1.out.trans (HBM3.out.mono HB1.out.size))
    have HA3 := Lib.hid (HA.out.bel HBW3.out)
    clear HG3 HO2 HGM2 HBM2 HS2
    go_wp2_with (at_builtin; refine wpList_append_has _ rfl (.tmp 32) (.tmp 33) _ rfl w1.heap.size 5 i0 (.int .u8 0) 1 Tryd.underlying25 hi0 hz0 hz1 hz2 rfl v3 (0 + 1 + s) _ rfl HO3.out _ n _ (vals l) rfl HXL.out HA3.out (vals_one _) (by unfold maxLen; omega) (by omega) HS3.out ?_; intro v4 w4 hown4 hgrow4 _; have HO4 := Lib.hid hown4; have HG4 := Lib.hid hgrow4; clear hown4 hgrow4)
    go_ret2
    rw [HS.out]
    refine ⟨_, rfl, ?_, ?_⟩
    · have h := HO4.out
      rw [List.nil_append, ← vals_append, ← vals_append] at h
      exact IsB.of_own h
    · exact HB1.out.trans ((HBM3.out.grown HG4.out HS3.out (fun q hq => (HO3.out.lt q hq).1)).mono HB1.out.size)
  · have HS : Hid (sectF tag l = ([], 1)) := by show _ = _; rw [sectF, hl, if_neg (by omega)]
    clear hl
    go_enter Tryd.func23, Tryd.ntmps23
    go_wp2_with fail
    refine (gput_no n w (by omega)).mono ?_
    rintro e w1 ⟨rfl, rfl⟩
    go_wp2_with fail
    go_ret2
    rw [HS.out]
    exact ⟨_, rfl, IsB.nil_ _, Below.refl _ _⟩
end Go.Proofs.YtohggpaffmcfoaaDoor
end
section
namespace Go.Proofs.YtohggpaffmcfoaaDoor
open Go.RowKit
set_option linter.unusedVariables false
set_option maxRecDepth 100000
set_option linter.unusedSimpArgs false
attribute [local go_sem ↓] sliced_cut
attribute [local go_sem] cutA_zero

set_option maxRecDepth 100000 in
set_option maxHeartbeats 1000000 in
theorem open_own (tag : UInt8) (v : Value) (l : List UInt8) (w : World) (hv : IsB w v l) (hn : (l.length : Int) ≤ 1099511627776) :
    Calls Tryd.prog 77 #[.int .u8 (tag.toNat : Int), v] w fun e w' =>
    ∃ a b, e = .returned (.tuple #[a, b, .int .i64 (openF tag l).2.2]) ∧ OwnB 5 w.heap.size a (openF tag l).1 w' ∧ OwnB 5 w.heap.size b (openF tag l).2.1 w' ∧ Below w.heap.size w w' := by
  obtain ⟨A, n, c, rfl, hnc, hcm, hl, hA⟩ := hv
  rcases l with _ | ⟨x, t⟩
  · simp only [List.length_nil] at hl
    subst hl
    clear hA
    go_enter Tryd.func77, Tryd.ntmps77
    go_wp2_with fail
    go_ret3
    exact ⟨_, _, rfl, World.ownsRow_nil _ _ _ _, World.ownsRow_nil _ _ _ _, Below.refl _ _⟩
  · have hm : t.length = n - 1 := by rw [← hl]; rfl
    have hn1 : 1 ≤ (n : Int) := by rw [← hl, List.length_cons]; omega
    rw [hl] at hn
    have HL := Lib.hid hl
    clear hl
    obtain ⟨ad, rfl, hcell⟩ := hA.at_ (k := 0) (by simp [vals])
    have hcell0 : w.cell? ad = some (.int .u8 (x.toNat : Int)) := by rw [addr_zero] at hcell; exact hcell
    clear hcell
    have hcm' := hcm
    unfold maxLen at hcm'
    by_cases hx : x = tag
    · subst hx
      have hA1 := hA.cutA (k := 1) (cap := c) (by rw [vals_length, HL.out]; exact hnc)
      rw [← vals_drop, List.drop_succ_cons, List.drop_zero] at hA1
      have HAT := Lib.hid hA1
      have HLT : Hid (t.length = n - 1) := hm
      have HA := Lib.hid hA
      have HTG := Lib.hid (taken_grp t)
      have hO : openF x (x :: t) = (if (takeG t).2.2 ≠ 0 then ([], [], (takeG t).2.2)
        else if ((t.drop (takeG t).2.1.toNat).length : Int) < (takeG t).1 then ([], [], 2)
        else ((t.drop (takeG t).2.1.toNat).take (takeG t).1.toNat, (t.drop (takeG t).2.1.toNat).drop (takeG t).1.toNat, 0)) := by
        rw [openF, if_neg (by simp)]
      have HO := Lib.hid hO
      clear hO hA hA1 hm
      have hne : ((x.toNat : Int) != (x.toNat : Int)) = false := by simp
      go_enter Tryd.func77, Tryd.ntmps77
      go_wp2_with fail
      refine (gtake_core _ _ _ t _ HLT (by omega) (by unfold maxLen; omega) HAT).mono ?_
      rintro e w' ⟨rfl, rfl⟩
      rcases HTG.out with ⟨N, hN, htg, hsl, htk⟩ | htg | ⟨htg, hl4⟩
      · obtain ⟨s, HS, hs1, hs2⟩ : ∃ s : Nat, Hid (gsize N = s) ∧ 1 ≤ (s : Int) ∧ (s : Int) ≤ 4 := ⟨gsize N, rfl, by have := gsize_pos N; omega, by have := gsize_pos N; omega⟩
        rw [HS.out, HLT.out] at hsl
        have HO2 := HO.out
        rw [htg, HS.out] at HO2
        rw [htg, HS.out]
        simp only [ne_eq, not_true_eq_false, if_false, Int.toNat_natCast, List.length_drop, HLT.out] at HO2
        have HO3 := Lib.hid HO2
        have hN' : (N : Int) ≤ 268435455 := by omega
        clear htg htk HTG HO2 HO hN
        have hcap : (N : Int) ≤ ((n - (1 + s) : Nat) : Int) → (N : Int) ≤ ((c - (1 + s) : Nat) : Int) := by omega
        by_cases hlt : n - (1 + s) < N
        · have HO4 : Hid (openF x (x :: t) = ([], [], 2)) := by
            show _ = _
            rw [HO3.out, if_pos (by omega)]
          clear HO3
          go_wp2_with fail
          go_ret3
          rw [HO4.out]
          exact ⟨_, _, rfl, World.ownsRow_nil _ _ _ _, World.ownsRow_nil _ _ _ _, Below.refl _ _⟩
        · have HO4 : Hid (openF x (x :: t) = ((t.drop s).take N, (t.drop s).drop N, 0)) := by
            show _ = _
            rw [HO3.out, if_neg (by omega)]
          have hA2 : Has w (cutA (some ad) c (1 + s) 1) (vals (t.drop s)) := by
            have h := HA.out.cutA (k := 1 + s) (cap := c) (by rw [vals_length, HL.out]; exact hnc)
            rw [← vals_drop, Nat.add_comm 1 s, List.drop_succ_cons] at h
            rw [Nat.add_comm 1 s]
            exact h
          have hlen : (t.drop s).length = n - (1 + s) := by rw [List.length_drop, HLT.out]; omega
          generalize t.drop s = T at *
          have hA3 := hA2.cutA (k := N) (cap := c - (1 + s)) (by rw [vals_length, hlen]; omega)
          rw [← vals_drop] at hA3
          have HV1 : IsB w.drew (.slice (cutA (some ad) c (1 + s) 1) N (c - (1 + s))) (T.take N) :=
            ⟨_, _, _, rfl, by omega, by unfold maxLen; omega, by rw [List.length_take, hlen]; omega, by rw [vals_take]; exact (hA2.take N).drew⟩
          have HV2 : ∀ w', Below w.heap.size w w' → IsB w' (.slice (cutA (cutA (some ad) c (1 + s) 1) (c - (1 + s)) N 1) (n - (1 + s) - N) (c - (1 + s) - N)) (T.drop N) := fun w' hb =>
            ⟨_, _, _, rfl, by omega, by unfold maxLen; omega, by rw [List.length_drop, hlen], hA3.bel hb⟩
          have HT1 : Hid (((T.take N).length : Int) ≤ 1099511627776) := by show _ ≤ _; rw [List.length_take, hlen]; omega
          have HT2 : Hid (((T.drop N).length : Int) ≤ 1099511627776) := by show _ ≤ _; rw [List.length_drop, hlen]; omega
          have C1 : Hid (Calls Tryd.prog 87 #[.slice (cutA (some ad) c (1 + s) 1) N (c - (1 + s))] w.drew fun e w' => ∃ v', e = .returned v' ∧ OwnB 5 w.heap.size v' (T.take N) w' ∧ Below w.heap.size w w') := by
            refine (clone_own _ _ _ HV1 HT1.out).mono ?_
            rintro e w' ⟨v', rfl, hv, hb⟩
            exact ⟨v', rfl, hv, ⟨hb.os, hb.tape, hb.output, hb.size, hb.block⟩⟩
          have C2 : Hid (∀ w1, Below w.heap.size w w1 → Calls Tryd.prog 87 #[.slice (cutA (cutA (some ad) c (1 + s) 1) (c - (1 + s)) N 1) (n - (1 + s) - N) (c - (1 + s) - N)] w1 fun e w' => ∃ v', e = .returned v' ∧ OwnB 5 w1.heap.size v' (T.drop N) w' ∧ Below w1.heap.size w1 w') :=
            fun w1 hb => clone_own _ _ _ (HV2 w1 hb) HT2.out
          clear HV1 HV2
          have hb1 := hcap (by omega)
          have hb2 : (N : Int) ≤ ((n - (1 + s) : Nat) : Int) := by omega
          clear hcap hA2 hA3 hlen HO3 HT1 HT2
          go_wp2_with fail
          go_region_with (go_at_call 87; first
            | (refine C1.out.mono ?_; rintro e w1 ⟨v1, rfl, hv1, hbl1⟩; have HR1 := Lib.hid hv1; have HBL1 := Lib.hid hbl1; clear hv1 hbl1)
            | (refine (C2.out _ HBL1.out).mono ?_; rintro e w2 ⟨v2, rfl, hv2, hbl2⟩; have HR2 := Lib.hid hv2; have HBL2 := Lib.hid hbl2; clear hv2 hbl2))
          all_goals
            have HF := Lib.hid (HBL1.out.trans (HBL2.out.mono HBL1.out.size))
            have HR3 := Lib.hid (HR1.out.bel HBL2.out)
            go_wp2
            go_ret3
            rw [HO4.out]
            exact ⟨_, _, rfl, HR3.out, OwnB.mk HR2.out HBL1.out.size, HF.out⟩
      · have HO2 := HO.out
        rw [htg] at HO2
        rw [htg]
        have HO3 := Lib.hid HO2
        clear htg HTG HO2 HO
        go_wp2_with fail
        go_ret3
        rw [HO3.out]
        exact ⟨_, _, rfl, World.ownsRow_nil _ _ _ _, World.ownsRow_nil _ _ _ _, Below.refl _ _⟩
      · have HO2 := HO.out
        rw [htg] at HO2
        rw [htg]
        have HO3 := Lib.hid HO2
        clear htg HTG HO2 HO
        go_wp2_with fail
        go_ret3
        rw [HO3.out]
        exact ⟨_, _, rfl, World.ownsRow_nil _ _ _ _, World.ownsRow_nil _ _ _ _, Below.refl _ _⟩
    · have HO := Lib.hid (open_other x tag t hx)
      have hne : ((x.toNat : Int) != (tag.toNat : Int)) = true := by
        rw [bne_iff_ne]
        intro h
        exact hx (UInt8.toNat_inj.1 (by omega))
      clear hA hx
      go_enter Tryd.func77, Tryd.ntmps77
      go_wp2_with fail
      go_ret3
      rw [HO.out]
      exact ⟨_, _, rfl, World.ownsRow_nil _ _ _ _, World.ownsRow_nil _ _ _ _, Below.refl _ _⟩
theorem open_any (tag : UInt8) (v : Value) (l : List UInt8) (w : World) (hv : IsB w v l) (hn : (l.length : Int) ≤ 1099511627776) :
    Calls Tryd.prog 77 #[.int .u8 (tag.toNat : Int), v] w fun e w' =>
    ∃ a b, e = .returned (.tuple #[a, b, .int .i64 (openF tag l).2.2]) ∧ IsB w' a (openF tag l).1 ∧ IsB w' b (openF tag l).2.1 ∧ Below w.heap.size w w' :=
  (open_own tag v l w hv hn).mono fun e w' ⟨a, b, h1, h2, h3, h4⟩ => ⟨a, b, h1, h2.isb, h3.isb, h4⟩
end Go.Proofs.YtohggpaffmcfoaaDoor
end
section
namespace Go.Proofs.YtohggpaffmcfoaaDoor
open Go.RowKit
set_option linter.unusedVariables false
set_option maxRecDepth 100000
set_option linter.unusedSimpArgs false

section
variable {P : Program} (w : World)
theorem run_append_full (t ty e : TypeId) (i : TypeInfo) (z : Value) (bytes : Nat) (ht : P.underlying t = some (.slice e)) (hi : P.info? e = some i) (hz : i.zero = some z)
    (hsize : i.size = 1) (hby : i.bytes = bytes) (hzs : z.cells.size = 1)
    (A : Option Addr) (n : Nat) (olds : List Value) (hn : olds.length = n) (hn0 : 0 < n) (hA : Has w A olds)
    (B : Option Addr) (m c : Nat) (news : List Value) (hm : news.length = m) (hm0 : 0 < m) (hB : Has w B news)
    (h63 : n + m ≤ maxLen) (hbytes : (n + m) * bytes ≤ 140737488355328) :
    ∃ v' w', (Builtin.append_ #[t, t] ty #[.slice A n n, .slice B m c]).run P w = .ok v' w' ∧ w'.ownsRow w.heap.size e 1 v' (n + m) (olds ++ news) ∧ w.grownBy w' none := by
  obtain ⟨ad, rfl, ha⟩ := hA (by omega)
  obtain ⟨bd, rfl, hb⟩ := hB (by omega)
  exact run_append_arg_grows (P := P) w t ty e i z 1 bytes ht hi hz hsize hby hzs (by omega) ad n n olds (by omega) ha bd m c news (by omega) hb (by omega) h63 hbytes
theorem wpList_append_full {ops : Array Oper} {rest : List Oper} {o : Oper} {a : Act} {Q : Exit → Act → World → Prop} (hgd : o.guard = none) (s x : Operand) (t : TypeId)
    (ho : o.op = .call { callee := .builtin .append, args := #[s, x], argTypes := #[t, t] })
    (e : TypeId) (i : TypeInfo) (z : Value) (bytes : Nat) (ht : P.underlying t = some (.slice e)) (hi : P.info? e = some i) (hz : i.zero = some z)
    (hsize : i.size = 1) (hby : i.bytes = bytes) (hzs : z.cells.size = 1)
    (A : Option Addr) (n : Nat) (olds : List Value) (hs : a.eval s = .slice A n n) (hn : olds.length = n) (hn0 : 0 < n) (hA : Has w A olds)
    (B : Option Addr) (m c : Nat) (news : List Value) (hx : a.eval x = .slice B m c) (hm : news.length = m) (hm0 : 0 < m) (hB : Has w B news)
    (h63 : n + m ≤ maxLen) (hbytes : (n + m) * bytes ≤ 140737488355328)
    (h : ∀ v' w', w'.ownsRow w.heap.size e 1 v' (n + m) (olds ++ news) → w.grownBy w' none → wpList P ops Q rest (a.put o.dst v') w') : wpList P ops Q (o :: rest) a w :=
  wpList_plain hgd fun _ hK => by
    obtain ⟨v', w', hrun, h2, h3⟩ := run_append_full (P := P) w t o.type e i z bytes ht hi hz hsize hby hzs A n olds hn hn0 hA B m c news hm hm0 hB h63 hbytes
    unfold Oper.wp execOp
    simp only [ho, resolve, invoke, builtin, Sem.run_bind, Sem.run_pure, Result.andThen_ok, List.map_toArray, List.map_cons, List.map_nil, hs, hx, hrun]
    exact hK _ _ (h v' w' h2 h3)
end
end Go.Proofs.YtohggpaffmcfoaaDoor
end
section
namespace Go.Proofs.YtohggpaffmcfoaaDoor
open Go.RowKit
set_option linter.unusedVariables false
set_option maxRecDepth 100000
set_option linter.unusedSimpArgs false
attribute [local go_sem ↓] sliced_cut
attribute [local go_sem] cutA_zero

theorem equal_any (v u : Value) (a b : List UInt8) (w : World) (hv : IsB w v a) (hu : IsB w u b) :
    Calls Tryd.prog 54 #[v, u] w fun e w' => e = .returned (.bool (a == b)) ∧ w = w' := by
  have c1 := run_string_isb0 (P := Tryd.prog) w 25 5 9 Tryd.underlying25 Tryd.underlying5 Tryd.underlying9 hv
  have c2 := run_string_isb0 (P := Tryd.prog) w 25 5 9 Tryd.underlying25 Tryd.underlying5 Tryd.underlying9 hu
  clear hv hu
  go_enter Tryd.func54, Tryd.ntmps54
  go_wp2_with fail
  go_ret
  exact ⟨rfl, rfl⟩
theorem word_any (m : Nat) (w : World) (hm : (m : Int) ≤ 4294967295) :
    Calls Tryd.prog 36 #[.int .u32 (m : Int)] w fun e w' => e = .returned (.slice (some ⟨w.heap.size, 0, none⟩) 4 4) ∧ w' = w.alloc (.cells (vals (be 4 m)).toArray 5) := by
  go_enter Tryd.func36, Tryd.ntmps36
  go_wp2_with fail
  refine (put_ok (m : Int) 4 w (by omega) (by omega) (by omega) (by simp; omega)).mono ?_
  rintro e w' ⟨rfl, rfl⟩
  go_wp2_with fail
  go_ret
  exact ⟨rfl, rfl⟩
theorem prefix_any (v u : Value) (a b : List UInt8) (w : World) (hv : IsB w v a) (hu : IsB w u b) :
    Calls Tryd.prog 53 #[v, u] w fun e w' => e = .returned (.bool (decide (b.length ≤ a.length) && (a.take b.length == b))) ∧ w = w' := by
  obtain ⟨A, n, c, rfl, hnc, hcm, hl, hA⟩ := hv
  obtain ⟨B, m, d, rfl, hmd, hdm, hm, hB⟩ := hu
  rw [hm, hl]
  have hcm' := hcm
  unfold maxLen at hcm'
  by_cases h : m ≤ n
  · have h1 : decide (m ≤ n) = true := decide_eq_true h
    have he := fun w : World => equal_any (.slice A m c) (.slice B m d) (a.take m) b w
    have H1 : Hid (IsB w (.slice A m c) (a.take m)) := ⟨_, _, _, rfl, by omega, hcm, by rw [List.length_take]; omega, by rw [vals_take]; exact hA.take m⟩
    have H2 : Hid (IsB w (.slice B m d) b) := ⟨_, _, _, rfl, hmd, hdm, hm, hB⟩
    have hmc : (m : Int) ≤ (c : Int) := by omega
    have HE := Lib.hid he
    have HD : Hid (decide (m ≤ n) = true) := decide_eq_true h
    clear hl hA hm hB h he
    go_enter Tryd.func53, Tryd.ntmps53
    go_wp2_with (go_at_call 54; refine (HE.out _ H1.out H2.out).mono ?_; rintro e w' ⟨rfl, rfl⟩)
    go_ret
    exact ⟨by rw [HD.out]; rfl, rfl⟩
  · have h1 : decide (m ≤ n) = false := decide_eq_false h
    have HD : Hid (decide (m ≤ n) = false) := decide_eq_false h
    clear hl hA hm hB h
    go_enter Tryd.func53, Tryd.ntmps53
    go_wp2_with fail
    go_ret
    exact ⟨by rw [HD.out]; rfl, rfl⟩
/-- with their sum behind them: onto a row of the call's own -/
theorem seal_own (base : Nat) (v : Value) (n : Nat) (l : List UInt8) (w : World) (hown : w.ownsRow base 5 1 v n (vals l)) (hb : base ≤ w.heap.size) (hn : (n : Int) ≤ 1099511640000) (ht : Hid (Tab w)) :
    Calls Tryd.prog 37 #[v] w fun e w' => ∃ v', e = .returned v' ∧ w'.ownsRow base 5 1 v' (n + 4) (vals (sealN l)) ∧ Below base w w' := by
  have HO := Lib.hid hown
  have HV := Lib.hid (IsB.of_own hown)
  have HI := Lib.hid byte_info
  have HB := Lib.hid hb
  have hs : ((sumN l : Nat) : Int) ≤ 4294967295 := by have := sumN_le l; omega
  have HW := Lib.hid (word_any (sumN l) w hs)
  clear hown hb
  go_enter Tryd.func37, Tryd.ntmps37
  go_wp2_with fail
  refine (sum_any _ _ _ HV.out ht).mono ?_
  rintro e w' ⟨rfl, rfl⟩
  go_wp2_with fail
  refine HW.out.mono ?_
  rintro e w1 ⟨rfl, rfl⟩
  have HN := Lib.hid (Has.new w (vals (be 4 (sumN l))) 5 (0, 0))
  have HL : Hid ((vals (be 4 (sumN l))).length = 4) := by show _ = _; rw [vals_length, be_length]
  obtain ⟨i0, hi0, hz0, hz1, hz2⟩ := info_parts HI.out
  go_wp2_with (at_builtin; refine wpList_append_has _ rfl (.tmp 3) (.tmp 6) _ rfl base 5 i0 (.int .u8 0) 1 Tryd.underlying25 hi0 hz0 hz1 hz2 rfl v n _ rfl (HO.out.alloc _) _ 4 _ _ rfl HL.out HN.out (vals_one _) (by unfold maxLen; omega) (by omega) (by have := HB.out; simp; omega) ?_; intro v2 w2 hown2 hgrow2 _; have HO2 := Lib.hid hown2; have HG2 := Lib.hid hgrow2; clear hown2 hgrow2)
  go_ret
  refine ⟨_, rfl, ?_, ?_⟩
  · have h := HO2.out
    rw [← vals_append] at h
    exact h
  · exact ((Below.refl _ _).alloc HB.out _).grown HG2.out (by have := HB.out; simp; omega) (fun q hq => (HO.out.lt q hq).1)
/-- with their sum behind them, in new memory -/
theorem seal_full (A : Option Addr) (n : Nat) (l : List UInt8) (w : World) (hn0 : 1 ≤ (n : Int)) (hl : l.length = n) (hA : Has w A (vals l)) (hn : (n : Int) ≤ 1099511640000) (ht : Hid (Tab w)) :
    Calls Tryd.prog 37 #[.slice A n n] w fun e w' => ∃ v', e = .returned v' ∧ w'.ownsRow w.heap.size 5 1 v' (n + 4) (vals (sealN l)) ∧ Below w.heap.size w w' := by
  have HV : Hid (IsB w (.slice A n n) l) := ⟨_, _, _, rfl, Nat.le_refl _, by unfold maxLen; omega, hl, hA⟩
  have HA := Lib.hid hA
  have HI := Lib.hid byte_info
  have HX : Hid ((vals l).length = n) := by show _ = _; rw [vals_length]; exact hl
  have hs : ((sumN l : Nat) : Int) ≤ 4294967295 := by have := sumN_le l; omega
  have HW := Lib.hid (word_any (sumN l) w hs)
  clear hl hA
  go_enter Tryd.func37, Tryd.ntmps37
  go_wp2_with fail
  refine (sum_any _ _ _ HV.out ht).mono ?_
  rintro e w' ⟨rfl, rfl⟩
  go_wp2_with fail
  refine HW.out.mono ?_
  rintro e w1 ⟨rfl, rfl⟩
  have HN := Lib.hid (Has.new w (vals (be 4 (sumN l))) 5 (0, 0))
  have HL : Hid ((vals (be 4 (sumN l))).length = 4) := by show _ = _; rw [vals_length, be_length]
  obtain ⟨i0, hi0, hz0, hz1, hz2⟩ := info_parts HI.out
  go_wp2_with (at_builtin; refine wpList_append_full _ rfl (.tmp 3) (.tmp 6) _ rfl 5 i0 (.int .u8 0) 1 Tryd.underlying25 hi0 hz0 hz1 hz2 rfl A n _ rfl HX.out (by omega) (HA.out.alloc _) _ 4 _ _ rfl HL.out (by omega) HN.out (by unfold maxLen; omega) (by omega) ?_; intro v2 w2 hown2 hgrow2; have HO2 := Lib.hid hown2; have HG2 := Lib.hid hgrow2; clear hown2 hgrow2)
  go_ret
  refine ⟨_, rfl, ?_, ?_⟩
  · have h := HO2.out
    rw [← vals_append] at h
    exact own_base h (by simp)
  · exact ((Below.refl _ _).alloc (Nat.le_refl _) _).grown HG2.out (by simp) (fun q hq => by cases hq)
end Go.Proofs.YtohggpaffmcfoaaDoor
end
section
namespace Go.Proofs.YtohggpaffmcfoaaDoor
open Go.RowKit
set_option linter.unusedVariables false
set_option maxRecDepth 100000
set_option linter.unusedSimpArgs false
attribute [local go_sem ↓] sliced_cut
attribute [local go_sem] cutA_zero

set_option maxRecDepth 100000 in
set_option maxHeartbeats 1000000 in
theorem fput_any (m : Nat) (v : Value) (l : List UInt8) (w : World) (hm : (m : Int) ≤ 4294967295) (hv : IsB w v l) (hn : (l.length : Int) ≤ 1099511627776) (ht : Hid (Tab w)) :
    Calls Tryd.prog 18 #[.int .u32 (m : Int), v] w fun e w' => ∃ v', e = .returned v' ∧ w'.ownsRow w.heap.size 5 1 v' (l.length + 8) (vals (frameN m l)) ∧ Below w.heap.size w w' := by
  obtain ⟨A, n, c, rfl, hnc, hcm, hl, hA⟩ := hv
  rw [hl] at hn
  rw [hl]
  have HA := Lib.hid hA
  have HX : Hid ((vals l).length = n) := by show _ = _; rw [vals_length]; exact hl
  have HWD := fun W => word_any m W hm
  have HW := Lib.hid HWD
  obtain ⟨i0, hi0, hz0, hz1, hz2⟩ := info_parts byte_info
  have hmk : ∀ W, (Instr.makeSlice 25 (.int .i64 0) (.int .i64 (4 + (n : Int) + 4))).run Tryd.prog W = .ok (.slice (some ⟨W.heap.size, 0, none⟩) 0 (4 + n + 4)) (W.alloc (.cells (madeCells #[.int .u8 0] (4 + n + 4)) 5)) := fun W => by
    have := run_make (P := Tryd.prog) W 25 5 i0 (.int .u8 0) Tryd.underlying25 hi0 hz0 .i64 .i64 0 (4 + (n : Int) + 4) (by omega) (by omega) (by rw [hz2]; omega) (by omega)
    rw [this, hz1, show (4 + (n : Int) + 4).toNat = 4 + n + 4 from by omega, Int.toNat_zero, Nat.mul_one]
    rfl
  obtain ⟨B, hB⟩ : ∃ B, w.heap.size = B := ⟨_, rfl⟩
  have HI : Hid (Tryd.prog.info? 5 = some i0 ∧ i0.zero = some (.int .u8 0) ∧ i0.size = 1 ∧ i0.bytes = 1) := ⟨hi0, hz0, hz1, hz2⟩
  have HM : Hid ((w.alloc (.cells (madeCells #[.int .u8 0] (4 + n + 4)) 5)).ownsRow B 5 1 (.slice (some ⟨B, 0, none⟩) 0 (4 + n + 4)) 0 []) := by
    have := World.ownsRow_made (e := 5) (size := 1) w (madeCells #[.int .u8 0] (4 + n + 4)) (4 + n + 4) (Nat.le_refl _) (by unfold maxLen; omega) (by rw [size_madeCells, Nat.mul_one])
    rw [hB] at this
    exact this
  have HB1 : Hid (Below B w (w.alloc (.cells (madeCells #[.int .u8 0] (4 + n + 4)) 5))) := by rw [← hB]; exact (Below.refl w.heap.size w).alloc (Nat.le_refl _) _
  have HB := Lib.hid hB
  clear hl hA HWD hi0 hz0 hz1 hz2
  rw [hB]
  clear hB
  go_enter Tryd.func18, Tryd.ntmps18
  go_upto_region 2 with fail
  clear hmk
  rw [HB.out]
  generalize w.alloc (.cells (madeCells #[.int .u8 0] (4 + n + 4)) 5) = w1 at *
  go_wp2_with fail
  refine (HW.out w1).mono ?_
  rintro e w2 ⟨rfl, rfl⟩
  have HN := Lib.hid (Has.new w1 (vals (be 4 m)) 5 (0, 0))
  have HM2 := Lib.hid (HM.out.alloc (.cells (vals (be 4 m)).toArray 5))
  have hs1 : B ≤ w1.heap.size := by have := HB1.out.size; rw [HB.out] at this; exact this
  have HB2 := Lib.hid (HB1.out.alloc hs1 (.cells (vals (be 4 m)).toArray 5))
  have HL : Hid ((vals (be 4 m)).length = 4) := by show _ = _; rw [vals_length, be_length]
  have HS2 : Hid (B ≤ (w1.alloc (.cells (vals (be 4 m)).toArray 5)).heap.size) := by show _ ≤ _; simp; omega
  generalize w1.alloc (.cells (vals (be 4 m)).toArray 5) = w2 at *
  clear hs1 HW
  obtain ⟨hi0, hz0, hz1, hz2⟩ := HI.out
  go_upto_region 3 with (at_builtin; refine wpList_append_has _ rfl (.tmp 11) (.tmp 13) _ rfl B 5 i0 (.int .u8 0) 1 Tryd.underlying25 hi0 hz0 hz1 hz2 rfl (.slice (some ⟨B, 0, none⟩) 0 (4 + n + 4)) 0 [] rfl HM2.out _ 4 _ _ rfl HL.out HN.out (vals_one _) (by unfold maxLen; omega) (by omega) HS2.out ?_; intro v3 w3 hown3 hgrow3 _; have HO3 := Lib.hid hown3; have HG3 := Lib.hid hgrow3; clear hown3 hgrow3)
  have HB3 : Hid (Below B w w3) := HB2.out.grown HG3.out HS2.out (fun q hq => (HM2.out.lt q hq).1)
  have HS3 : Hid (B ≤ w3.heap.size) := by have := HB3.out.size; rw [HB.out] at this; exact this
  have HA3 : Hid (Has w3 A (vals l)) := HA.out.below HB3.out (by rw [HB.out]; exact Nat.le_refl _)
  clear HG3 HM2 HN HL HS2 HB2 HB1 HM
  go_wp2_with (at_builtin; refine wpList_append_has _ rfl (.tmp 15) (.tmp 16) _ rfl B 5 i0 (.int .u8 0) 1 Tryd.underlying25 hi0 hz0 hz1 hz2 rfl v3 (0 + 4) _ rfl HO3.out A n _ _ rfl HX.out HA3.out (vals_one _) (by unfold maxLen; omega) (by omega) HS3.out ?_; intro v4 w4 hown4 hgrow4 _; have HO4 := Lib.hid hown4; have HG4 := Lib.hid hgrow4; clear hown4 hgrow4)
  have HB4 : Hid (Below B w w4) := HB3.out.grown HG4.out HS3.out (fun q hq => (HO3.out.lt q hq).1)
  have HS4 : Hid (B ≤ w4.heap.size) := by have := HB4.out.size; rw [HB.out] at this; exact this
  have HO5 : Hid (w4.ownsRow B 5 1 v4 (4 + n) (vals (be 4 m ++ l))) := by
    have h := HO4.out
    rw [List.nil_append, ← vals_append, Nat.zero_add] at h
    exact h
  have HT4 : Hid (Tab w4) := ht.out.bel (by rw [HB.out]; exact HB4.out)
  refine (seal_own B v4 (4 + n) (be 4 m ++ l) w4 HO5.out HS4.out (by omega) HT4).mono ?_
  rintro e w5 ⟨v5, rfl, hown5, hb5⟩
  have HO6 := Lib.hid hown5
  have HB5 := Lib.hid (HB4.out.trans hb5)
  clear hown5 hb5
  go_wp2_with fail
  go_ret
  refine ⟨_, rfl, ?_, HB5.out⟩
  have h := HO6.out
  rw [show 4 + n + 4 = n + 8 from by omega] at h
  exact h
set_option maxRecDepth 100000 in
set_option maxHeartbeats 1000000 in
theorem ftake_any (m : Nat) (v : Value) (l : List UInt8) (w : World) (hm : (m : Int) ≤ 4294967295) (hv : IsB w v l) (hn : (l.length : Int) ≤ 1099511627776) (ht : Hid (Tab w)) :
    Calls Tryd.prog 29 #[.int .u32 (m : Int), v] w fun e w' => ∃ v', e = .returned (.tuple #[v', .int .i64 (takeF m l).2]) ∧ IsB w' v' (takeF m l).1 ∧ Below w.heap.size w w' := by
  obtain ⟨A, n, c, rfl, hnc, hcm, hl, hA⟩ := hv
  rw [hl] at hn
  have hcm' := hcm
  unfold maxLen at hcm'
  have hTF : takeF m l = (if n < 8 then ([], 2) else if l.take 4 ≠ be 4 m then ([], 5) else if sealN (l.take (n - 4)) ≠ l then ([], 6) else ((l.take (n - 4)).drop 4, 0)) := by rw [takeF, hl]
  have HTF := Lib.hid hTF
  clear hTF
  have HL := Lib.hid hl
  have HA := Lib.hid hA
  have HC := Lib.hid hcm
  clear hl hA
  by_cases h8 : (n : Int) < 8
  · have HF : Hid (takeF m l = ([], 2)) := by show _ = _; rw [HTF.out, if_pos (by omega)]
    have h84 : (n : Int) - 4 < 4 := by omega
    go_enter Tryd.func29, Tryd.ntmps29
    go_wp2_with fail
    go_ret2
    rw [HF.out]
    exact ⟨_, rfl, IsB.nil_ _, Below.refl _ _⟩
  · have HW := Lib.hid (word_any m w hm)
    have h84 : decide ((n : Int) - 4 < 4) = false := decide_eq_false (by omega)
    go_enter Tryd.func29, Tryd.ntmps29
    go_wp2_with fail
    refine HW.out.mono ?_
    rintro e w1 ⟨rfl, rfl⟩
    have HB1 := Lib.hid ((Below.refl w.heap.size w).alloc (Nat.le_refl _) (.cells (vals (be 4 m)).toArray 5))
    have HN := Lib.hid (IsB.new w (be 4 m) 5 (0, 0) 4 (be_length _ _) (by unfold maxLen; omega))
    generalize w.alloc (.cells (vals (be 4 m)).toArray 5) = w1 at *
    have HA1 := Lib.hid (HA.out.bel HB1.out)
    have HV1 : Hid (IsB w1 (.slice A n c) l) := ⟨_, _, _, rfl, hnc, HC.out, HL.out, HA1.out⟩
    have HT1 := Lib.hid (ht.out.bel HB1.out)
    go_wp2_with fail
    refine (prefix_any _ _ _ _ _ HV1.out HN.out).mono ?_
    rintro e w' ⟨rfl, rfl⟩
    by_cases h4 : l.take 4 = be 4 m
    · rw [show (decide ((be 4 m).length ≤ l.length) && (l.take (be 4 m).length == be 4 m)) = true from by rw [be_length, h4, HL.out]; simp; omega]
      have H1 : Hid (Has w1 A (vals (l.take (n - 4)))) := by rw [vals_take]; exact HA1.out.take _
      have H1L : Hid ((l.take (n - 4)).length = n - 4) := by show _ = _; rw [List.length_take, HL.out]; omega
      have HTF2 : Hid (takeF m l = (if sealN (l.take (n - 4)) ≠ l then ([], 6) else ((l.take (n - 4)).drop 4, 0))) := by
        show _ = _
        rw [HTF.out, if_neg (by omega), if_neg (by simp [h4])]
      clear h4 HN HTF
      have hsub : (0 : Int) ≤ (n : Int) - 4 := by omega
      have hsc : (n : Int) - 4 ≤ (c : Int) := by omega
      have htn : ((n : Int) - 4).toNat = n - 4 := by omega
      go_wp2_with fail
      refine (seal_full A (n - 4) (l.take (n - 4)) w1 (by omega) H1L.out H1.out (by omega) HT1).mono ?_
      rintro e w2 ⟨v2, rfl, hown2, hb2⟩
      rw [show n - 4 + 4 = n from by omega] at hown2
      have HB2 := Lib.hid (HB1.out.trans (hb2.mono HB1.out.size))
      have HV2 : Hid (IsB w2 (.slice A n c) l) := HV1.out.bel hb2
      have hl2 : (sealN (l.take (n - 4))).length = n := by rw [sealN_length, H1L.out]; omega
      obtain ⟨g, cap, rfl, hnc2, hcap2⟩ : ∃ g cap, v2 = .slice (some ⟨g, 0, none⟩) n cap ∧ n ≤ cap ∧ cap ≤ maxLen := by
        rcases hown2.2 with ⟨rfl, h⟩ | ⟨g, cap, cur, rfl, _, _, hnc2, hcap2, _⟩
        · omega
        · exact ⟨g, cap, rfl, hnc2, hcap2⟩
      have HO2 := Lib.hid (IsB.of_own hown2)
      have HH2 := Lib.hid (Has.of_own hown2)
      clear hown2 hb2 hcap2
      go_wp2_with fail
      refine (equal_any _ _ _ _ _ HO2.out HV2.out).mono ?_
      rintro e w' ⟨rfl, rfl⟩
      by_cases hs : sealN (l.take (n - 4)) = l
      · have HF : Hid (takeF m l = ((l.take (n - 4)).drop 4, 0)) := by show _ = _; rw [HTF2.out, if_neg (by simp [hs])]
        rw [hs] at HH2
        rw [hs, beq_self_eq_true]
        have HH3 : Hid (Has w2 (cutA (some ⟨g, 0, none⟩) (n - 4) 4 1) (vals ((l.take (n - 4)).drop 4))) := by
          rw [vals_drop, vals_take]
          exact (HH2.out.take (n - 4)).cutA (by rw [List.length_take]; omega)
        have hs4 : (4 : Int) ≤ (n : Int) - 4 := by omega
        have hs5 : (n : Int) - 4 ≤ (cap : Int) := by omega
        clear hs HTF2 HH2 HO2 HV2 hl2
        go_wp2_with fail
        go_ret2
        rw [HF.out]
        refine ⟨_, rfl, ⟨_, _, _, rfl, Nat.le_refl _, by unfold maxLen; omega, ?_, HH3.out⟩, HB2.out⟩
        rw [List.length_drop, H1L.out]
      · have HF : Hid (takeF m l = ([], 6)) := by show _ = _; rw [HTF2.out, if_pos hs]
        rw [show (sealN (l.take (n - 4)) == l) = false from by simp [hs]]
        clear hs HTF2 HH2 HO2 HV2 hl2
        go_wp2_with fail
        go_ret2
        rw [HF.out]
        exact ⟨_, rfl, IsB.nil_ _, HB2.out⟩
    · rw [show (decide ((be 4 m).length ≤ l.length) && (l.take (be 4 m).length == be 4 m)) = false from by rw [be_length]; simp [h4]]
      have HF : Hid (takeF m l = ([], 5)) := by show _ = _; rw [HTF.out, if_neg (by omega), if_pos h4]
      clear h4 HN HTF
      go_wp2_with fail
      go_ret2
      rw [HF.out]
      exact ⟨_, rfl, IsB.nil_ _, HB1.out⟩
end Go.Proofs.YtohggpaffmcfoaaDoor
end
section
namespace Go.Proofs.YtohggpaffmcfoaaDoor
open Go.RowKit
set_option linter.unusedVariables false
set_option maxRecDepth 100000
set_option linter.unusedSimpArgs false
attribute [local go_sem ↓] sliced_cut
attribute [local go_sem] cutA_zero

theorem rword (n : Nat) (w : World) (h : (n : Int) ≤ 4294967295) : Calls Tryd.prog 48 #[.int .i64 n, .int .i64 4] w fun e w' =>
    ∃ v, e = .returned (.tuple #[v, .int .i64 0]) ∧ w'.ownsRow w.heap.size 5 1 v 4 (vals (be 4 n)) ∧ Below w.heap.size w w' := by
  have hp : putS (n : Int) ((4 : Nat) : Int) = (be 4 n, 0) := by
    rw [putS, if_pos ⟨by omega, by omega, by simp; omega⟩]
    rfl
  have h1 := rput_pos n 4 w (show n < _ by omega) (by omega) (by omega)
  rw [hp] at h1
  refine h1.mono ?_
  rintro e w' ⟨v, rfl, ho, hb⟩
  simp only [be_length] at ho
  exact ⟨v, rfl, ho, hb⟩
set_option maxRecDepth 100000 in
set_option maxHeartbeats 1000000 in
theorem rfput_any (m : Nat) (v : Value) (l : List UInt8) (w : World) (hm : (m : Int) ≤ 4294967295) (hv : IsB w v l) (hn : (l.length : Int) ≤ 1099511627776) :
    Calls Tryd.prog 27 #[.int .u32 (m : Int), v] w fun e w' => ∃ v', e = .returned v' ∧ IsB w' v' (frameN m l) ∧ Below w.heap.size w w' := by
  obtain ⟨A, n, c, rfl, hnc, hcm, hl, hA⟩ := hv
  rw [hl] at hn
  have HA := Lib.hid hA
  have HX : Hid ((vals l).length = n) := by show _ = _; rw [vals_length]; exact hl
  have hs : ((sumN (be 4 m ++ l) : Nat) : Int) ≤ 4294967295 := by have := sumN_le (be 4 m ++ l); omega
  clear hl hA
  go_enter Tryd.func27, Tryd.ntmps27
  go_wp2_with fail
  refine (rword m w hm).mono ?_
  rintro e w1 ⟨v1, rfl, ho1, hb1⟩
  have HO1 := Lib.hid ho1
  have HB1 := Lib.hid hb1
  have HA1 := Lib.hid (HA.out.bel hb1)
  have HZ1 := Lib.hid hb1.size
  clear ho1 hb1
  obtain ⟨i0, hi0, hz0, hz1, hz2⟩ := info_parts byte_info
  go_wp2_with (at_builtin; refine wpList_append_has _ rfl (.tmp 15) (.tmp 16) _ rfl w.heap.size 5 i0 (.int .u8 0) 1 Tryd.underlying25 hi0 hz0 hz1 hz2 rfl v1 4 _ rfl HO1.out A n _ _ rfl HX.out HA1.out (vals_one _) (by unfold maxLen; omega) (by omega) HZ1.out ?_; intro v2 w2 hown2 hgrow2 _; have HO2 := Lib.hid hown2; have HG2 := Lib.hid hgrow2; clear hown2 hgrow2)
  have HB2 : Hid (Below w.heap.size w w2) := HB1.out.grown HG2.out HZ1.out (fun q hq => (HO1.out.lt q hq).1)
  have HV2 : Hid (IsB w2 v2 (be 4 m ++ l)) := IsB.of_own (by have h := HO2.out; rw [← vals_append] at h; exact h)
  clear HG2 HO1 HA1
  refine (rsum_any v2 _ w2 HV2.out).mono ?_
  rintro e w' ⟨rfl, rfl⟩
  go_wp2_with fail
  refine (rword (sumN (be 4 m ++ l)) w2 hs).mono ?_
  rintro e w3 ⟨v3, rfl, ho3, hb3⟩
  obtain ⟨A3, c3, rfl, hnc3, hcm3, hcl3, hcA3⟩ := Sl.of_own ho3
  have HA3 := Lib.hid hcA3
  have HL3 := Lib.hid hcl3
  have HO3 := Lib.hid (own_bel HO2.out hb3)
  have HB3 := Lib.hid (HB2.out.trans (hb3.mono HB2.out.size))
  have HZ3 := Lib.hid HB3.out.size
  clear ho3 hb3 hcm3 hcl3 hcA3 HO2 HV2
  go_wp2_with (at_builtin; refine wpList_append_has _ rfl (.tmp 25) (.tmp 26) _ rfl w.heap.size 5 i0 (.int .u8 0) 1 Tryd.underlying25 hi0 hz0 hz1 hz2 rfl v2 (4 + n) _ rfl HO3.out A3 4 _ _ rfl HL3.out HA3.out (vals_one _) (by unfold maxLen; omega) (by omega) HZ3.out ?_; intro v4 w4 hown4 hgrow4 _; have HO4 := Lib.hid hown4; have HG4 := Lib.hid hgrow4; clear hown4 hgrow4)
  go_ret
  refine ⟨_, rfl, ?_, HB3.out.grown HG4.out HZ3.out (fun q hq => (HO3.out.lt q hq).1)⟩
  have h := HO4.out
  rw [← vals_append, ← vals_append] at h
  exact IsB.of_own h
set_option maxRecDepth 100000 in
set_option maxHeartbeats 1000000 in
theorem rftake_any (m : Nat) (v : Value) (l : List UInt8) (w : World) (hm : (m : Int) ≤ 4294967295) (hv : IsB w v l) (hn : (l.length : Int) ≤ 1099511627776) :
    Calls Tryd.prog 31 #[.int .u32 (m : Int), v] w fun e w' => ∃ v', e = .returned (.tuple #[v', .int .i64 (takeF m l).2]) ∧ IsB w' v' (takeF m l).1 ∧ Below w.heap.size w w' := by
  obtain ⟨A, n, c, rfl, hnc, hcm, hl, hA⟩ := hv
  rw [hl] at hn
  have hcm' := hcm
  unfold maxLen at hcm'
  have hTF : takeF m l = (if n < 8 then ([], 2) else if l.take 4 ≠ be 4 m then ([], 5) else if sealN (l.take (n - 4)) ≠ l then ([], 6) else ((l.take (n - 4)).drop 4, 0)) := by rw [takeF, hl]
  have HTF := Lib.hid hTF
  have HL := Lib.hid hl
  have HA := Lib.hid hA
  have HV : Hid (IsB w (.slice A n c) l) := ⟨_, _, _, rfl, hnc, hcm, hl, hA⟩
  clear hTF hl hA
  by_cases h8 : n < 8
  · have HF : Hid (takeF m l = ([], 2)) := by show _ = _; rw [HTF.out, if_pos h8]
    have h82 : decide ((n : Int) < 8) = true := decide_eq_true (by omega)
    go_enter Tryd.func31, Tryd.ntmps31
    go_wp2_with fail
    go_ret2
    rw [HF.out]
    exact ⟨_, rfl, IsB.nil_ _, Below.refl _ _⟩
  · have h82 : decide ((n : Int) < 8) = false := decide_eq_false (by omega)
    have HK : Hid (takeS l 4 = ((val (l.take 4) : Int), 0)) := by
      show _ = _
      rw [takeS, if_pos (by omega), if_neg (by rw [HL.out]; omega)]
      rfl
    have hfit : l.take 4 = be 4 m ↔ val (l.take 4) = m := by
      constructor
      · intro h1
        rw [h1]
        exact val_be_lt 4 m (by omega)
      · intro h1
        have h2 := be_val (l.take 4)
        rw [List.length_take, Nat.min_eq_left (by rw [HL.out]; omega), h1] at h2
        exact h2.symm
    by_cases h4 : l.take 4 = be 4 m
    · have hv4 : val (l.take 4) = m := hfit.1 h4
      have hne : ((m : Int) != (m : Int)) = false := by simp
      rw [hv4] at HK
      have HTF2 : Hid (takeF m l = (if sealN (l.take (n - 4)) ≠ l then ([], 6) else ((l.take (n - 4)).drop 4, 0))) := by
        show _ = _
        rw [HTF.out, if_neg h8, if_neg (by simp [h4])]
      have hsq := sealN_eq l (n - 4) (by rw [HL.out]; omega)
      have HD : Hid (IsB w (.slice (cutA A c (n - 4) 1) (n - (n - 4)) (c - (n - 4))) (l.drop (n - 4))) :=
        ⟨_, _, _, rfl, by omega, by unfold maxLen; omega, by rw [List.length_drop, HL.out], by rw [vals_drop]; exact HA.out.cutA (by rw [vals_length, HL.out]; exact hnc)⟩
      have HK2 : Hid (takeS (l.drop (n - 4)) 4 = ((val (l.drop (n - 4)) : Int), 0)) := by
        show _ = _
        rw [takeS, if_pos (by omega), if_neg (by rw [List.length_drop, HL.out]; omega)]
        rw [show Int.toNat 4 = 4 from rfl, List.take_of_length_le (by rw [List.length_drop, HL.out]; omega)]
      have HI : Hid (IsB w (.slice A (n - 4) c) (l.take (n - 4))) :=
        ⟨_, _, _, rfl, by omega, hcm, by rw [List.length_take, HL.out]; omega, by rw [vals_take]; exact HA.out.take _⟩
      have hsb : ((sumN (l.take (n - 4)) : Nat) : Int) ≤ 4294967295 := by have := sumN_le (l.take (n - 4)); omega
      have hn40 : (0 : Int) ≤ (n : Int) - 4 := by omega
      have hn41 : (n : Int) - 4 ≤ (n : Int) := by omega
      have hn42 : (n : Int) - 4 ≤ (c : Int) := by omega
      have hn43 : ((n : Int) - 4).toNat = n - 4 := by omega
      clear HTF hfit h4 hv4
      go_enter Tryd.func31, Tryd.ntmps31
      go_wp2_with fail
      refine (rtake_any _ l 4 w HV.out).mono ?_
      rintro e w' ⟨rfl, rfl⟩
      rw [HK.out]
      go_wp2_with fail
      refine (rtake_any _ (l.drop (n - 4)) 4 w HD.out).mono ?_
      rintro e w' ⟨rfl, rfl⟩
      rw [HK2.out]
      go_wp2_with fail
      refine (rsum_any _ (l.take (n - 4)) w HI.out).mono ?_
      rintro e w' ⟨rfl, rfl⟩
      by_cases hs : sealN (l.take (n - 4)) = l
      · have HF : Hid (takeF m l = ((l.take (n - 4)).drop 4, 0)) := by show _ = _; rw [HTF2.out, if_neg (by simp [hs])]
        rw [hsq.1 hs]
        have hself : ∀ x : Int, (x != x) = false := by simp
        have HHX : Hid (Has w (cutA A c 4 1) (vals ((l.take (n - 4)).drop 4))) := by
          rw [vals_drop, vals_take]
          exact (HA.out.take (n - 4)).cutA (by rw [List.length_take, vals_length, HL.out]; omega)
        have HXL : Hid ((vals ((l.take (n - 4)).drop 4)).length = n - 4 - 4) := by
          show _ = _
          rw [vals_length, List.length_drop, List.length_take, HL.out]
          omega
        have HOL := Lib.hid (World.ownsRow_lit (e := 5) (size := 1) w #[] 0 (Nat.le_refl _) (by decide) rfl)
        have hn44 : (4 : Int) ≤ (n : Int) - 4 := by omega
        generalize sumN (l.take (n - 4)) = S at *
        obtain ⟨i0, hi0, hz0, hz1, hz2⟩ := info_parts byte_info
        clear hs hsq HTF2 HK2 HI HD HK
        go_wp2_with (at_builtin; refine wpList_append_has _ rfl (.tmp 40) (.tmp 44) _ rfl w.heap.size 5 i0 (.int .u8 0) 1 Tryd.underlying25 hi0 hz0 hz1 hz2 rfl (.slice (some ⟨w.heap.size, 0, none⟩) 0 0) 0 [] rfl HOL.out _ (n - 4 - 4) _ _ rfl HXL.out (HHX.out.alloc _) (vals_one _) (by unfold maxLen; omega) (by omega) (by simp) ?_; intro v2 w2 hown2 hgrow2 _; have HO2 := Lib.hid hown2; have HG2 := Lib.hid hgrow2; clear hown2 hgrow2)
        go_ret2
        rw [HF.out]
        refine ⟨_, rfl, ?_, ((Below.refl _ _).alloc (Nat.le_refl _) _).grown HG2.out (by simp) (fun q hq => (HOL.out.lt q hq).1)⟩
        have h := HO2.out
        rw [List.nil_append] at h
        exact IsB.of_own h
      · have HF : Hid (takeF m l = ([], 6)) := by show _ = _; rw [HTF2.out, if_pos hs]
        have hne2 : (((val (l.drop (n - 4)) : Nat) : Int) != ((sumN (l.take (n - 4)) : Nat) : Int)) = true := by
          rw [bne_iff_ne]
          intro h
          exact hs (hsq.2 (by omega))
        clear hs hsq HTF2
        go_wp2_with fail
        go_ret2
        rw [HF.out]
        exact ⟨_, rfl, IsB.nil_ _, Below.refl _ _⟩
    · have HF : Hid (takeF m l = ([], 5)) := by show _ = _; rw [HTF.out, if_neg h8, if_pos h4]
      have hne : (((val (l.take 4) : Nat) : Int) != (m : Int)) = true := by
        rw [bne_iff_ne]
        intro h
        exact h4 (hfit.2 (by omega))
      clear hfit h4 HTF
      go_enter Tryd.func31, Tryd.ntmps31
      go_wp2_with fail
      refine (rtake_any _ l 4 w HV.out).mono ?_
      rintro e w' ⟨rfl, rfl⟩
      rw [HK.out]
      go_wp2_with fail
      go_ret2
      rw [HF.out]
      exact ⟨_, rfl, IsB.nil_ _, Below.refl _ _⟩
end Go.Proofs.YtohggpaffmcfoaaDoor
end
section
namespace Go.Proofs.YtohggpaffmcfoaaDoor
open Go.RowKit
set_option linter.unusedVariables false
set_option maxRecDepth 100000
set_option linter.unusedSimpArgs false
attribute [local go_sem ↓] sliced_cut
attribute [local go_sem] cutA_zero

set_option maxRecDepth 100000 in
set_option maxHeartbeats 1000000 in
theorem rsection_any (tag : UInt8) (v : Value) (l : List UInt8) (w : World) (hv : IsB w v l) (hn : (l.length : Int) ≤ 1099511627776) :
    Calls Tryd.prog 52 #[.int .u8 (tag.toNat : Int), v] w fun e w' =>
    ∃ v', e = .returned (.tuple #[v', .int .i64 (sectF tag l).2]) ∧ IsB w' v' (sectF tag l).1 ∧ Below w.heap.size w w' := by
  obtain ⟨A, n, c, rfl, hnc, hcm, hl, hA⟩ := hv
  have HA := Lib.hid hA
  have HL := Lib.hid hl
  rw [hl] at hn
  clear hA
  by_cases hb : (n : Int) ≤ 268435455
  · have HS : Hid (sectF tag l = (tag :: (grp n ++ l), 0)) := by show _ = _; rw [sectF, hl, if_pos (by omega)]
    clear hl
    have hpg : putG (n : Int) = (grp n, 0) := by rw [putG, if_pos ⟨by omega, hb⟩]; rfl
    have RG := rgput_any (n : Int) w
    rw [hpg] at RG
    have HRG := Lib.hid RG
    clear RG hpg
    obtain ⟨s, Hs, hs1, hs2⟩ : ∃ s : Nat, Hid (gsize n = s) ∧ 1 ≤ (s : Int) ∧ (s : Int) ≤ 4 := ⟨gsize n, rfl, by have := gsize_pos n; omega, by have := gsize_pos n; omega⟩
    go_enter Tryd.func52, Tryd.ntmps52
    go_wp2_with fail
    refine HRG.out.mono ?_
    rintro e w1 ⟨v1, rfl, hv1, hb1⟩
    obtain ⟨A1, n1, c1, rfl, hnc1, hcm1, hl1, hA1⟩ := hv1
    obtain rfl : s = n1 := by rw [← hl1, grp_length]; exact Hs.out.symm
    have HG1 := Lib.hid hA1
    have HB1 := Lib.hid hb1
    have HGL : Hid ((vals (grp n)).length = s) := by show _ = _; rw [vals_length]; exact hl1
    have HXL : Hid ((vals l).length = n) := by show _ = _; rw [vals_length]; exact HL.out
    have HA1 := Lib.hid (HA.out.bel hb1)
    have HOT : Hid ((w1.alloc (.cells #[.int .u8 (tag.toNat : Int)] 5)).ownsRow w1.heap.size 5 1 (.slice (some ⟨w1.heap.size, 0, none⟩) 1 1) 1 (vals [tag])) := World.ownsRow_lit (e := 5) (size := 1) w1 #[.int .u8 (tag.toNat : Int)] 1 (Nat.le_refl _) (by decide) rfl
    obtain ⟨i0, hi0, hz0, hz1, hz2⟩ := info_parts byte_info
    clear hb1 hA1 hl1 hcm1
    go_wp2_with (first
      | (at_builtin; refine wpList_append_has _ rfl (.tmp 18) (.tmp 19) _ rfl w1.heap.size 5 i0 (.int .u8 0) 1 Tryd.underlying25 hi0 hz0 hz1 hz2 rfl (.slice (some ⟨w1.heap.size, 0, none⟩) 1 1) 1 _ rfl HOT.out A1 s c1 _ rfl HGL.out (HG1.out.alloc _) (vals_one _) (by unfold maxLen; omega) (by omega) (by simp) ?_; intro v2 w2 hown2 hgrow2 _; have HO2 := Lib.hid hown2; have HB2 : Hid (Below w1.heap.size w1 w2) := ((Below.refl _ _).alloc (Nat.le_refl _) _).grown hgrow2 (by simp) (fun q hq => (HOT.out.lt q hq).1); have HA2 := Lib.hid (HA1.out.bel HB2.out); have HS2 := Lib.hid HB2.out.size; clear hown2 hgrow2)
      | (at_builtin; refine wpList_append_has _ rfl (.tmp 20) (.tmp 21) _ rfl w1.heap.size 5 i0 (.int .u8 0) 1 Tryd.underlying25 hi0 hz0 hz1 hz2 rfl v2 (1 + s) _ rfl HO2.out A n c _ rfl HXL.out HA2.out (vals_one _) (by unfold maxLen; omega) (by omega) HS2.out ?_; intro v3 w3 hown3 hgrow3 _; have HO3 := Lib.hid hown3; have HB3 : Hid (Below w1.heap.size w1 w3) := HB2.out.grown hgrow3 HS2.out (fun q hq => (HO2.out.lt q hq).1); clear hown3 hgrow3))
    go_ret2
    rw [HS.out]
    refine ⟨_, rfl, ?_, HB1.out.trans (HB3.out.mono HB1.out.size)⟩
    have h := HO3.out
    rw [← vals_append, ← vals_append] at h
    exact IsB.of_own h
  · have HS : Hid (sectF tag l = ([], 1)) := by show _ = _; rw [sectF, hl, if_neg (by omega)]
    clear hl
    go_enter Tryd.func52, Tryd.ntmps52
    go_wp2_with fail
    refine (rgput_no n w (by omega)).mono ?_
    rintro e w1 ⟨rfl, rfl⟩
    go_wp2_with fail
    go_ret2
    rw [HS.out]
    exact ⟨_, rfl, IsB.nil_ _, Below.refl _ _⟩
set_option maxRecDepth 100000 in
set_option maxHeartbeats 2000000 in
theorem ropen_own (tag : UInt8) (v : Value) (l : List UInt8) (w : World) (hv : IsB w v l) (hn : (l.length : Int) ≤ 1099511627776) :
    Calls Tryd.prog 33 #[.int .u8 (tag.toNat : Int), v] w fun e w' =>
    ∃ a b, e = .returned (.tuple #[a, b, .int .i64 (openF tag l).2.2]) ∧ OwnB 5 w.heap.size a (openF tag l).1 w' ∧ OwnB 5 w.heap.size b (openF tag l).2.1 w' ∧ Below w.heap.size w w' := by
  obtain ⟨A, n, c, rfl, hnc, hcm, hl, hA⟩ := hv
  rcases l with _ | ⟨x, t⟩
  · simp only [List.length_nil] at hl
    subst hl
    clear hA
    go_enter Tryd.func33, Tryd.ntmps33
    go_wp2_with fail
    go_ret3
    exact ⟨_, _, rfl, World.ownsRow_nil _ _ _ _, World.ownsRow_nil _ _ _ _, Below.refl _ _⟩
  · have hm : t.length = n - 1 := by rw [← hl]; rfl
    have hn1 : 1 ≤ (n : Int) := by rw [← hl, List.length_cons]; omega
    rw [hl] at hn
    have HL := Lib.hid hl
    clear hl
    obtain ⟨ad, rfl, hcell⟩ := hA.at_ (k := 0) (by simp [vals])
    have hcell0 : w.cell? ad = some (.int .u8 (x.toNat : Int)) := by rw [addr_zero] at hcell; exact hcell
    clear hcell
    have hcm' := hcm
    unfold maxLen at hcm'
    by_cases hx : x = tag
    · subst hx
      have hA1 := hA.cutA (k := 1) (cap := c) (by rw [vals_length, HL.out]; exact hnc)
      rw [← vals_drop, List.drop_succ_cons, List.drop_zero] at hA1
      have HAT := Lib.hid hA1
      have HLT : Hid (t.length = n - 1) := hm
      have HA := Lib.hid hA
      have HTG := Lib.hid (taken_grp t)
      have hO : openF x (x :: t) = (if (takeG t).2.2 ≠ 0 then ([], [], (takeG t).2.2)
        else if ((t.drop (takeG t).2.1.toNat).length : Int) < (takeG t).1 then ([], [], 2)
        else ((t.drop (takeG t).2.1.toNat).take (takeG t).1.toNat, (t.drop (takeG t).2.1.toNat).drop (takeG t).1.toNat, 0)) := by
        rw [openF, if_neg (by simp)]
      have HO := Lib.hid hO
      clear hO hA hA1 hm
      have hne : ((x.toNat : Int) != (x.toNat : Int)) = false := by simp
      go_enter Tryd.func33, Tryd.ntmps33
      go_wp2_with fail
      refine (rgtake_core _ _ _ t _ HLT (by omega) (by unfold maxLen; omega) HAT).mono ?_
      rintro e w' ⟨rfl, rfl⟩
      rcases HTG.out with ⟨N, hN, htg, hsl, htk⟩ | htg | ⟨htg, hl4⟩
      · obtain ⟨s, HS, hs1, hs2⟩ : ∃ s : Nat, Hid (gsize N = s) ∧ 1 ≤ (s : Int) ∧ (s : Int) ≤ 4 := ⟨gsize N, rfl, by have := gsize_pos N; omega, by have := gsize_pos N; omega⟩
        rw [HS.out, HLT.out] at hsl
        have HO2 := HO.out
        rw [htg, HS.out] at HO2
        rw [htg, HS.out]
        simp only [ne_eq, not_true_eq_false, if_false, Int.toNat_natCast, List.length_drop, HLT.out] at HO2
        have HO3 := Lib.hid HO2
        have hN' : (N : Int) ≤ 268435455 := by omega
        clear htg htk HTG HO2 HO hN
        by_cases hlt : n - (1 + s) < N
        · have HO4 : Hid (openF x (x :: t) = ([], [], 2)) := by
            show _ = _
            rw [HO3.out, if_pos (by omega)]
          have hltI : decide ((n : Int) - 1 - (s : Int) < (N : Int)) = true := decide_eq_true (by omega)
          clear HO3
          go_wp2_with fail
          go_ret3
          rw [HO4.out]
          exact ⟨_, _, rfl, World.ownsRow_nil _ _ _ _, World.ownsRow_nil _ _ _ _, Below.refl _ _⟩
        · have HO4' : Hid (openF x (x :: t) = ((t.drop s).take N, (t.drop s).drop N, 0)) := by
            show _ = _
            rw [HO3.out, if_neg (by omega)]
          have hltI : decide ((n : Int) - 1 - (s : Int) < (N : Int)) = false := decide_eq_false (by omega)
          have hA2 : Has w (cutA (some ad) c (1 + s) 1) (vals ((t.drop s).take N)) := by
            have h := (HA.out.cutA (k := 1 + s) (cap := c) (by rw [vals_length, HL.out]; exact hnc)).take N
            rw [← vals_drop, ← vals_take, Nat.add_comm 1 s, List.drop_succ_cons] at h
            rw [Nat.add_comm 1 s]
            exact h
          have hA3 : Has w (cutA (some ad) c (1 + s + N) 1) (vals ((t.drop s).drop N)) := by
            have h := HA.out.cutA (k := 1 + s + N) (cap := c) (by rw [vals_length, HL.out]; exact hnc)
            rw [← vals_drop, show 1 + s + N = (s + N) + 1 from by omega, List.drop_succ_cons, ← List.drop_drop] at h
            rw [show 1 + s + N = (s + N) + 1 from by omega]
            exact h
          have HA2 := Lib.hid hA2
          have HA3 := Lib.hid hA3
          have HL2 : Hid ((vals ((t.drop s).take N)).length = N) := by show _ = _; rw [vals_length, List.length_take, List.length_drop, HLT.out]; omega
          have HL3 : Hid ((vals ((t.drop s).drop N)).length = n - (1 + s + N)) := by show _ = _; rw [vals_length, List.length_drop, List.length_drop, HLT.out]; omega
          clear hA2 hA3 HO3
          obtain ⟨s1, hs1e⟩ : ∃ s1, 1 + s = s1 := ⟨_, rfl⟩
          obtain ⟨s2, hs2e⟩ : ∃ s2, s1 + N = s2 := ⟨_, rfl⟩
          have hw1 : IntKind.i64.wrap (1 + (s : Int)) = (s1 : Int) := by rw [IntKind.wrap_i64]; omega
          have hw2 : IntKind.i64.wrap ((s1 : Int) + (N : Int)) = (s2 : Int) := by rw [IntKind.wrap_i64]; omega
          rw [hs1e] at HA2 HA3 HL3
          rw [hs2e] at HA3 HL3
          have h12 : (s1 : Int) ≤ (s2 : Int) := by omega
          have h1n : (s2 : Int) ≤ (n : Int) := by omega
          have h1c : (s2 : Int) ≤ (c : Int) := by omega
          have HL2' : Hid ((vals ((t.drop s).take N)).length = s2 - s1) := by show _ = _; rw [HL2.out]; omega
          generalize (t.drop s).take N = I at *
          generalize (t.drop s).drop N = R at *
          have hsz : s2 - s1 = N := by omega
          have HOE : Hid (∀ (wx : World) (g : Nat), wx.heap[g]? = some (.cells #[] 5 (0, 0)) → w.heap.size ≤ g → wx.ownsRow w.heap.size 5 1 (.slice (some ⟨g, 0, none⟩) 0 0) 0 []) := fun wx g h1 h2 =>
            ⟨rfl, .inr ⟨g, 0, #[], rfl, h2, h1, Nat.le_refl _, by decide, rfl, rfl⟩⟩
          obtain ⟨i0, hi0, hz0, hz1, hz2⟩ := info_parts byte_info
          go_wp2_with fail
          have EA : Hid (((w.alloc (.cells #[] 5)).drew).heap[w.heap.size]? = some (.cells #[] 5 (0, 0))) := heap_alloc_new w _
          have EB0 : Hid ((((w.alloc (.cells #[] 5)).alloc (.cells #[] 5)).drew).heap[w.heap.size]? = some (.cells #[] 5 (0, 0))) := by
            show ((w.alloc (.cells #[] 5)).alloc (.cells #[] 5)).heap[w.heap.size]? = _
            rw [heap_alloc_old _ _ (by simp)]
            exact heap_alloc_new w _
          have EB1 : Hid ((((w.alloc (.cells #[] 5)).alloc (.cells #[] 5)).drew).heap[w.heap.size + 1]? = some (.cells #[] 5 (0, 0))) := by
            show ((w.alloc (.cells #[] 5)).alloc (.cells #[] 5)).heap[w.heap.size + 1]? = _
            have := heap_alloc_new (w.alloc (.cells #[] 5)) (.cells #[] 5)
            rw [World.size_alloc] at this
            exact this
          go_region_held3 (fun w' => True) (trivial)
            (first
            | ((refine step_append_has _ (by rfl) (.tmp 35) (.tmp 43) _ (by rfl) w.heap.size 5 i0 (.int .u8 0) 1 Tryd.underlying25 hi0 hz0 hz1 hz2 rfl (.slice (some ⟨w.heap.size, 0, none⟩) 0 0) 0 [] (by rfl) (HOE.out _ _ ?_ (by omega)) (cutA (some ad) c s1 1) N (c - s1) (vals I) (by rfl) HL2.out ?_ (vals_one _) (by unfold maxLen; omega) (by omega) ?_ ?_
                · first | exact EA.out | exact EB0.out | exact EB1.out
                · first | exact (HA2.out.alloc _).drew | exact ((HA2.out.alloc _).alloc _).drew
                · first | (simp; done) | (simp; omega)
                intro v3 w3 hown3 hgrow3 hat3
                have HO3 := Lib.hid hown3
                have HB3 : Hid (Below w.heap.size w w3) := by
                  first
                    | exact ((Below.refl _ _).alloc (Nat.le_refl _) _).drew.grown hgrow3 (by simp) (by intro g hg; simp [Value.ownBlock] at hg; omega)
                    | exact (((Below.refl _ _).alloc (Nat.le_refl _) _).alloc (by simp) _).drew.grown hgrow3 (by simp; omega) (by intro g hg; simp [Value.ownBlock] at hg; omega)
                have HZ3 := Lib.hid HB3.out.size
                have HA33 := Lib.hid (HA3.out.bel HB3.out)))
            | ((refine step_append_has _ (by rfl) (.tmp 35) (.tmp 43) _ (by rfl) w.heap.size 5 i0 (.int .u8 0) 1 Tryd.underlying25 hi0 hz0 hz1 hz2 rfl (.slice (some ⟨w.heap.size + 1, 0, none⟩) 0 0) 0 [] (by rfl) (HOE.out _ _ ?_ (by omega)) (cutA (some ad) c s1 1) N (c - s1) (vals I) (by rfl) HL2.out ?_ (vals_one _) (by unfold maxLen; omega) (by omega) ?_ ?_
                · first | exact EA.out | exact EB0.out | exact EB1.out
                · first | exact (HA2.out.alloc _).drew | exact ((HA2.out.alloc _).alloc _).drew
                · first | (simp; done) | (simp; omega)
                intro v3 w3 hown3 hgrow3 hat3
                have HO3 := Lib.hid hown3
                have HB3 : Hid (Below w.heap.size w w3) := by
                  first
                    | exact ((Below.refl _ _).alloc (Nat.le_refl _) _).drew.grown hgrow3 (by simp) (by intro g hg; simp [Value.ownBlock] at hg; omega)
                    | exact (((Below.refl _ _).alloc (Nat.le_refl _) _).alloc (by simp) _).drew.grown hgrow3 (by simp; omega) (by intro g hg; simp [Value.ownBlock] at hg; omega)
                have HZ3 := Lib.hid HB3.out.size
                have HA33 := Lib.hid (HA3.out.bel HB3.out)))
            | ((refine step_append_has _ (by rfl) (.tmp 45) (.tmp 51) _ (by rfl) w.heap.size 5 i0 (.int .u8 0) 1 Tryd.underlying25 hi0 hz0 hz1 hz2 rfl (.slice (some ⟨w3.heap.size, 0, none⟩) 0 0) 0 [] (by rfl) (HOE.out _ _ ?_ ?_) (cutA (some ad) c s2 1) (n - s2) (c - s2) (vals R) (by rfl) HL3.out ?_ (vals_one _) (by unfold maxLen; omega) (by omega) ?_ ?_
                · exact heap_alloc_new w3 _
                · have := HZ3.out; omega
                · first | exact HA33.out | exact HA33.out.alloc _
                · have := HZ3.out; first | (simp; done) | (simp; omega) | omega
                intro v4 w4 hown4 hgrow4 hat4
                have HO4 := Lib.hid hown4))
            | ((refine step_append_has _ (by rfl) (.tmp 45) (.tmp 51) _ (by rfl) w.heap.size 5 i0 (.int .u8 0) 1 Tryd.underlying25 hi0 hz0 hz1 hz2 rfl (.slice (some ⟨w.heap.size + 1, 0, none⟩) 0 0) 0 [] (by rfl) (HOE.out _ _ ?_ ?_) (cutA (some ad) c s2 1) (n - s2) (c - s2) (vals R) (by rfl) HL3.out ?_ (vals_one _) (by unfold maxLen; omega) (by omega) ?_ ?_
                · rw [hgrow3.block _ (by simp) (by simp [Value.ownBlock])]; exact EB1.out
                · have := HZ3.out; omega
                · first | exact HA33.out | exact HA33.out.alloc _
                · have := HZ3.out; first | (simp; done) | (simp; omega) | omega
                intro v4 w4 hown4 hgrow4 hat4
                have HO4 := Lib.hid hown4))
            | ((refine step_append_has _ (by rfl) (.tmp 45) (.tmp 51) _ (by rfl) w.heap.size 5 i0 (.int .u8 0) 1 Tryd.underlying25 hi0 hz0 hz1 hz2 rfl (.slice (some ⟨w.heap.size, 0, none⟩) 0 0) 0 [] (by rfl) (HOE.out _ _ ?_ ?_) (cutA (some ad) c s2 1) (n - s2) (c - s2) (vals R) (by rfl) HL3.out ?_ (vals_one _) (by unfold maxLen; omega) (by omega) ?_ ?_
                · rw [hgrow3.block _ (by simp; omega) (by simp [Value.ownBlock])]; exact EB0.out
                · have := HZ3.out; omega
                · first | exact HA33.out | exact HA33.out.alloc _
                · have := HZ3.out; first | (simp; done) | (simp; omega) | omega
                intro v4 w4 hown4 hgrow4 hat4
                have HO4 := Lib.hid hown4)))
          all_goals
            have HB4 : Hid (Below w.heap.size w w4) := by
              first
                | exact HB3.out.grown hgrow4 HZ3.out (by intro g hg; simp [Value.ownBlock] at hg; omega)
                | exact (HB3.out.alloc HZ3.out _).grown hgrow4 (by have := HZ3.out; simp; omega) (by intro g hg; simp [Value.ownBlock] at hg; have := HZ3.out; omega)
            have HI4 : Hid (OwnB 5 w.heap.size v3 I w4) := by
              have h : w4.ownsRow w.heap.size 5 1 v3 (0 + N) ([] ++ vals I) := by
                first
                  | exact (HO3.out.alloc _).kept hgrow4 (.inr (fun h => by
                      have h2 := (HO3.out.lt _ h).2
                      exact absurd h2 (Nat.lt_irrefl _)))
                  | exact HO3.out.kept hgrow4 (.inr (fun h => by
                      rcases hat3 with h3 | h3
                      · rw [h3] at h; simp [Value.ownBlock] at h <;> omega
                      · rw [h3] at h; simp [Value.ownBlock] at h <;> omega))
              rw [List.nil_append] at h
              exact OwnB.mk h (Nat.le_refl _)
            have HR4 : Hid (OwnB 5 w.heap.size v4 R w4) := by
              have h := HO4.out
              rw [List.nil_append] at h
              exact OwnB.mk h (Nat.le_refl _)
            clear hgrow3 hat3 hgrow4 hat4 hown3 hown4 HO3 HO4
            go_wp2
            go_ret3
            rw [HO4'.out]
            exact ⟨_, _, rfl, HI4.out, HR4.out, HB4.out⟩
      · have HO2 := HO.out
        rw [htg] at HO2
        rw [htg]
        have HO3 := Lib.hid HO2
        clear htg HTG HO2 HO
        go_wp2_with fail
        go_ret3
        rw [HO3.out]
        exact ⟨_, _, rfl, World.ownsRow_nil _ _ _ _, World.ownsRow_nil _ _ _ _, Below.refl _ _⟩
      · have HO2 := HO.out
        rw [htg] at HO2
        rw [htg]
        have HO3 := Lib.hid HO2
        clear htg HTG HO2 HO
        go_wp2_with fail
        go_ret3
        rw [HO3.out]
        exact ⟨_, _, rfl, World.ownsRow_nil _ _ _ _, World.ownsRow_nil _ _ _ _, Below.refl _ _⟩
    · have HO := Lib.hid (open_other x tag t hx)
      have hne : ((x.toNat : Int) != (tag.toNat : Int)) = true := by
        rw [bne_iff_ne]
        intro h
        exact hx (UInt8.toNat_inj.1 (by omega))
      clear hA hx
      go_enter Tryd.func33, Tryd.ntmps33
      go_wp2_with fail
      go_ret3
      rw [HO.out]
      exact ⟨_, _, rfl, World.ownsRow_nil _ _ _ _, World.ownsRow_nil _ _ _ _, Below.refl _ _⟩
theorem ropen_any (tag : UInt8) (v : Value) (l : List UInt8) (w : World) (hv : IsB w v l) (hn : (l.length : Int) ≤ 1099511627776) :
    Calls Tryd.prog 33 #[.int .u8 (tag.toNat : Int), v] w fun e w' =>
    ∃ a b, e = .returned (.tuple #[a, b, .int .i64 (openF tag l).2.2]) ∧ IsB w' a (openF tag l).1 ∧ IsB w' b (openF tag l).2.1 ∧ Below w.heap.size w w' :=
  (ropen_own tag v l w hv hn).mono fun e w' ⟨a, b, h1, h2, h3, h4⟩ => ⟨a, b, h1, h2.isb, h3.isb, h4⟩
end Go.Proofs.YtohggpaffmcfoaaDoor
end
