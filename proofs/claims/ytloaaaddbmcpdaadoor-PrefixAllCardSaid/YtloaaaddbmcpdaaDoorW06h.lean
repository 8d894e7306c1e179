/- The walk of theseuslaw06.PrefixAll. -/
import Derived.Test.YtloaaaddbmcpdaaDoorL06
import Derived.Test.YtloaaaddbmcpdaaDoorRef06p
import Derived.Deep.DeepCutAuto
import Derived.Deep.RegionHeld3
namespace Go.Proofs.YtloaaaddbmcpdaaDoor
open Go.RowKit
set_option linter.unusedVariables false
set_option linter.unusedSimpArgs false

set_option maxRecDepth 100000 in
set_option maxHeartbeats 8000000 in
theorem walkPrefixAll (l0 l1 : List Int) (s : ByteArray) (w : World) (ht : Hid (Tab w)) (w0 : l0.length = 2 ∧ ∀ x ∈ l0, (Lit.int .u32 x).wf = true) (w1 : l1.length = 2 ∧ ∀ x ∈ l1, (Lit.int .i64 x).wf = true) (w2 : s.size ≤ maxLen) :
    Calls Tryd.prog 3 #[.agg (l0.map (Value.int .u32)).toArray, .agg (l1.map (Value.int .i64)).toArray, .string s] w fun e w' => e = .returned (.bool true) ∧ Below w.heap.size w w' := by
  obtain ⟨hlen, hwf⟩ := w0
  obtain ⟨x, y, rfl⟩ : ∃ x y, l0 = [x, y] := by
    match l0, hlen with
    | [x, y], _ => exact ⟨x, y, rfl⟩
  obtain ⟨hlx, hhx⟩ := bounds_u32 (hwf x (by simp))
  obtain ⟨hly, hhy⟩ := bounds_u32 (hwf y (by simp))
  obtain ⟨a, rfl⟩ := Int.eq_ofNat_of_zero_le hlx
  obtain ⟨b, rfl⟩ := Int.eq_ofNat_of_zero_le hly
  clear hwf hlen hlx hly
  have ha : (a : Int) ≤ 4294967295 := by omega
  have hb : (b : Int) ≤ 4294967295 := by omega
  clear hhx hhy
  obtain ⟨hlen, hwf⟩ := w1
  obtain ⟨p, q, rfl⟩ : ∃ x y, l1 = [x, y] := by
    match l1, hlen with
    | [x, y], _ => exact ⟨x, y, rfl⟩
  have HP : Hid (I64 p) := by obtain ⟨h1, h2⟩ := bounds_i64 (hwf p (by simp)); exact ⟨by omega, by omega⟩
  have HR : Hid (I64 q) := by obtain ⟨h1, h2⟩ := bounds_i64 (hwf q (by simp)); exact ⟨by omega, by omega⟩
  clear hwf hlen
  obtain ⟨f, hf, HF, CF⟩ := few6 s w2
  clear HF w2
  have hfm : f.size ≤ maxLen := by unfold maxLen; omega
  have Q1 := Lib.hid (fun w => pparse_any f w hfm)
  have Q2 := Lib.hid (fun w ht => rpparse_any f w hfm ht)
  have hlt := pfx_lt f.data.toList
  generalize (pfx f.data.toList).1 = z at *
  generalize (pfx f.data.toList).2.1 = m at *
  generalize (pfx f.data.toList).2.2 = o at *
  have hz : (z : Int) ≤ 4294967295 := by omega
  have hm : (m : Int) ≤ 32 := by omega
  clear hlt hfm
  go_enter Tryd.func3, Tryd.ntmps3
  go_wp2_with fail
  have hb0 : Below w.heap.size w ((w.alloc (.cells #[.int .u32 a, .int .u32 b] 23)).alloc (.cells #[.int .i64 p, .int .i64 q] 24)) := ((Below.refl _ _).alloc (Nat.le_refl _) _).alloc (by simp) _
  have hca : ((w.alloc (.cells #[.int .u32 a, .int .u32 b] 23)).alloc (.cells #[.int .i64 p, .int .i64 q] 24)).cell? ⟨w.heap.size, 0, none⟩ = some (.int .u32 a) := by rw [World.cell?_alloc_lt _ _ _ (by simp), World.cell?_alloc_mark]; rfl
  have hcb : ((w.alloc (.cells #[.int .u32 a, .int .u32 b] 23)).alloc (.cells #[.int .i64 p, .int .i64 q] 24)).cell? ⟨w.heap.size, 1, none⟩ = some (.int .u32 b) := by rw [World.cell?_alloc_lt _ _ _ (by simp), World.cell?_alloc_mark]; rfl
  have hci : ((w.alloc (.cells #[.int .u32 a, .int .u32 b] 23)).alloc (.cells #[.int .i64 p, .int .i64 q] 24)).cell? ⟨w.heap.size + 1, 0, none⟩ = some (.int .i64 p) := by rw [show w.heap.size + 1 = (w.alloc (.cells #[.int .u32 a, .int .u32 b] 23)).heap.size by simp, World.cell?_alloc_mark]; rfl
  have hcj : ((w.alloc (.cells #[.int .u32 a, .int .u32 b] 23)).alloc (.cells #[.int .i64 p, .int .i64 q] 24)).cell? ⟨w.heap.size + 1, 1, none⟩ = some (.int .i64 q) := by rw [show w.heap.size + 1 = (w.alloc (.cells #[.int .u32 a, .int .u32 b] 23)).heap.size by simp, World.cell?_alloc_mark]; rfl
  have hsz : w.heap.size + 1 < ((w.alloc (.cells #[.int .u32 a, .int .u32 b] 23)).alloc (.cells #[.int .i64 p, .int .i64 q] 24)).heap.size := by simp
  have hT := ht.out.bel hb0
  generalize hW : (w.alloc (.cells #[.int .u32 a, .int .u32 b] 23)).alloc (.cells #[.int .i64 p, .int .i64 q] 24) = W at *
  obtain ⟨g, hg⟩ : ∃ g, w.heap.size = g := ⟨_, rfl⟩
  have HQ : Hid (∀ wx, Below W.heap.size W wx → (wx.cell? ⟨g, 0, none⟩ = some (.int .u32 a) ∧ wx.cell? ⟨g, 1, none⟩ = some (.int .u32 b)) ∧ (wx.cell? ⟨g + 1, 0, none⟩ = some (.int .i64 p) ∧ wx.cell? ⟨g + 1, 1, none⟩ = some (.int .i64 q)) ∧ Tab wx) := fun wx hx => by
    subst hg
    exact ⟨⟨by rw [hx.cell (p := ⟨w.heap.size, 0, none⟩) (by show w.heap.size < _; omega)]; exact hca, by rw [hx.cell (p := ⟨w.heap.size, 1, none⟩) (by show w.heap.size < _; omega)]; exact hcb⟩, ⟨by rw [hx.cell (p := ⟨w.heap.size + 1, 0, none⟩) hsz]; exact hci, by rw [hx.cell (p := ⟨w.heap.size + 1, 1, none⟩) hsz]; exact hcj⟩, hT.bel hx⟩
  have HB0 : Hid (Below w.heap.size w W) := hb0
  have HSW : Hid (w.heap.size ≤ W.heap.size) := hb0.size
  have HTW := Lib.hid hT
  rw [hg]
  clear hca hcb hci hcj hsz hb0 hg hT hW
  refine (shown6 W HTW).mono ?_
  rintro e1 w1 ⟨rfl, hb1⟩
  have HB1 := Lib.hid hb1
  clear hb1
  go_wp2_with fail
  go_loopw [8] (fun i wr => ∃ k : Nat, k ≤ 2 ∧ i = .int .i64 k ∧ Hid (Below W.heap.size W wr)) (fun i _ => 2 - (intOf i).toNat)
  case atStart => exact ⟨0, by omega, rfl, HB1⟩
  case round =>
    obtain ⟨k, hk, rfl, HBr⟩ := hrel
    by_cases hlt : k < 2
    · obtain ⟨N, hN⟩ : ∃ N : Int, Hid (∀ wx, Below W.heap.size W wx → (wx.cell? ⟨g, 0, none⟩ = some (.int .u32 a) ∧ wx.cell? ⟨g, 1, none⟩ = some (.int .u32 b)) ∧ wx.cell? ⟨g + 1, k, none⟩ = some (.int .i64 N) ∧ Tab wx) ∧ Hid (I64 N) := by
        rcases (by omega : k = 0 ∨ k = 1) with rfl | rfl
        · exact ⟨p, fun wx hx => ⟨(HQ.out wx hx).1, (HQ.out wx hx).2.1.1, (HQ.out wx hx).2.2⟩, HP⟩
        · exact ⟨q, fun wx hx => ⟨(HQ.out wx hx).1, (HQ.out wx hx).2.1.2, (HQ.out wx hx).2.2⟩, HR⟩
      obtain ⟨HN, HI⟩ := hN
      have E1 := Lib.hid (fun w => ends_any a N w ha)
      have E2 := Lib.hid (fun w => rends_any a N w ha)
      have M1 := Lib.hid (fun w => mask_any N w)
      have M2 := Lib.hid (fun w => rmask_any N w)
      have A1 := Lib.hid (fun w => may_any a N w ha)
      have A2 := Lib.hid (fun w => rmay_any a N w ha)
      have H1 := Lib.hid (fun w => holds_any a b N w ha hb)
      have H2 := Lib.hid (fun w => rholds_any a b N w ha hb)
      have P1 := Lib.hid (fun w ht => pprint_any a N w ha HI ht)
      have P2 := Lib.hid (fun w ht => rpprint_any a N w ha HI ht)
      have hmk := msk_le (cl N)
      have hl1 := lo_lt a (cl N) (by omega)
      have hl2 := hi_lt a (cl N) (by omega)
      generalize mskN (cl N) = mk at *
      generalize loN a (cl N) = L at *
      generalize hiN a (cl N) = H at *
      generalize holdB a (cl N) b = v at *
      generalize mayI a N = y at *
      generalize (⟨(txt a ++ 47 :: Lib.itoa N).toArray⟩ : ByteArray) = d at *
      have hL : (L : Int) ≤ 4294967295 := by omega
      have hH : (H : Int) ≤ 4294967295 := by omega
      have hK : (mk : Int) ≤ 4294967295 := by omega
      clear hmk hl1 hl2
      have hqa := (HN.out wr HBr.out).1.1
      have hqn := (HN.out wr HBr.out).2.1
      have HD := Lib.hid HBr.out.drew
      go_upto_region 5 with fail
      go_cut [9, 10] (fun l h wx => l = .int .u32 L ∧ h = .int .u32 H ∧ Hid (Below W.heap.size W wx))
      case first =>
        go_region_held3 (fun w' => w'.cell? ⟨g, 0, none⟩ = some (.int .u32 (a : Int)) ∧ w'.cell? ⟨g + 1, k, none⟩ = some (.int .i64 N))
          (first | go_keep | exact ⟨(HN.out _ HB2.out).1.1, (HN.out _ HB2.out).2.1⟩)
          (first | (go_simp; go_at_call 12; refine (E1.out _).mono ?_; rintro e w2 ⟨rfl, hb2⟩; have HB2 := Lib.hid (HD.out.trans (hb2.mono HD.out.size)); clear hb2))
        all_goals
          go_wp2_with fail
          go_meet
          exact ⟨rfl, rfl, HB2⟩
      case rest =>
        obtain ⟨rfl, rfl, HBc⟩ := hcut
        generalize wc = w2 at *
        clear hqa hqn HD E1 HBr
        have hqa := (HN.out w2 HBc.out).1.1
        have hqb := (HN.out w2 HBc.out).1.2
        have hqn := (HN.out w2 HBc.out).2.1
        have HD := Lib.hid HBc.out.drew
        have s1 : (y != y) = false := by simp
        have s2 : ((mk : Int) != (mk : Int)) = false := by simp
        have s3 : (v != v) = false := by simp
        have s4 : ((L : Int) != (L : Int)) = false := by simp
        have s5 : ((H : Int) != (H : Int)) = false := by simp
        have s6 : (d.toList != d.toList) = false := by simp
        go_upto_region 6 with fail
        go_cut [11, 12] (fun l h wx => l = .int .u32 L ∧ h = .int .u32 H ∧ Hid (Below W.heap.size W wx))
        case first =>
          go_region_held3 (fun w' => w'.cell? ⟨g, 0, none⟩ = some (.int .u32 (a : Int)) ∧ w'.cell? ⟨g + 1, k, none⟩ = some (.int .i64 N))
            (first | go_keep)
            (first | (go_simp; go_at_call 13; refine (E2.out _).mono ?_; rintro e w' ⟨rfl, rfl⟩))
          all_goals
            go_wp2_with fail
            go_meet
            exact ⟨rfl, rfl, HD⟩
        case rest =>
        obtain ⟨rfl, rfl, HBc⟩ := hcut
        generalize wc = w2 at *
        clear hqa hqb hqn HD E2
        have hqa := (HN.out w2 HBc.out).1.1
        have hqb := (HN.out w2 HBc.out).1.2
        have hqn := (HN.out w2 HBc.out).2.1
        have HD := Lib.hid HBc.out.drew
        go_upto_region 7 with fail
        go_cut [109] (fun r wx => r = .bool false ∧ Hid (Below W.heap.size W wx))
        case first =>
          simp only [List.append_eq, List.cons_append, List.nil_append]
          go_region_held3 (fun w' => w'.cell? ⟨g, 0, none⟩ = some (.int .u32 (a : Int)) ∧ w'.cell? ⟨g, 1, none⟩ = some (.int .u32 (b : Int)) ∧ w'.cell? ⟨g + 1, k, none⟩ = some (.int .i64 N))
            (first | go_keep | exact ⟨(HN.out _ HB6.out).1.1, (HN.out _ HB6.out).1.2, (HN.out _ HB6.out).2.1⟩ | exact ⟨(HN.out _ HB5.out).1.1, (HN.out _ HB5.out).1.2, (HN.out _ HB5.out).2.1⟩ | exact ⟨(HN.out _ HB4.out).1.1, (HN.out _ HB4.out).1.2, (HN.out _ HB4.out).2.1⟩ | exact ⟨(HN.out _ HB3.out).1.1, (HN.out _ HB3.out).1.2, (HN.out _ HB3.out).2.1⟩)
            (first
              | (go_simp; go_at_call 14; refine (A1.out _).mono ?_; rintro e w3 ⟨rfl, hb3⟩; have HB3 := Lib.hid (HD.out.trans (hb3.mono HD.out.size)); clear hb3)
              | (go_simp; go_at_call 15; refine (A2.out _).mono ?_; rintro e w' ⟨rfl, rfl⟩)
              | (go_simp; go_at_call 16; refine (M1.out _).mono ?_; rintro e w' ⟨rfl, rfl⟩)
              | (go_simp; go_at_call 17; refine (M2.out _).mono ?_; rintro e w' ⟨rfl, rfl⟩)
              | (go_simp; go_at_call 18; refine (H1.out _).mono ?_; rintro e w4 ⟨rfl, hb4⟩; have HB4 := Lib.hid (HB3.out.trans (hb4.mono HB3.out.size)); clear hb4)
              | (go_simp; go_at_call 19; refine (H2.out _).mono ?_; rintro e w' ⟨rfl, rfl⟩)
              | (go_simp; go_at_call 20; refine (P1.out _ (Lib.hid (HN.out _ HB4.out).2.2)).mono ?_; rintro e w5 ⟨rfl, hb5⟩; have HB5 := Lib.hid (HB4.out.trans (hb5.mono HB4.out.size)); clear hb5)
              | (go_simp; go_at_call 21; refine (P2.out _ (Lib.hid (HN.out _ HB5.out).2.2)).mono ?_; rintro e w6 ⟨rfl, hb6⟩; have HB6 := Lib.hid (HB5.out.trans (hb6.mono HB5.out.size)); clear hb6))
          all_goals
            go_wp2_with fail
            go_meet
            exact ⟨rfl, HB6⟩
        case rest =>
          obtain ⟨rfl, HBd⟩ := hcut
          go_wp2_with fail
          go_roundw
          case rel => exact ⟨k + 1, by omega, by go_num, HBd⟩
          case measure => simp [intOf]; omega
    · obtain rfl : k = 2 := by omega
      have C1 := Lib.hid (fun w => compare_any a b p q w)
      have C2 := Lib.hid (fun w => rcompare_any a b p q w)
      generalize cmpI a p b q = c at *
      have s1 : (c == c) = true := by simp
      have s2 : ((z : Int) == (z : Int)) = true := by simp
      have s3 : ((m : Int) == (m : Int)) = true := by simp
      have s4 : (o == o) = true := by simp
      go_wp2_with fail
      refine (CF.out _).mono ?_
      rintro e1 wq ⟨rfl, rfl⟩
      go_wp2_with fail
      refine (Q1.out _).mono ?_
      rintro e1 w2 ⟨rfl, hb⟩
      have HB2 := Lib.hid (HBr.out.trans (hb.mono HBr.out.size))
      clear hb
      go_wp2_with fail
      refine (CF.out _).mono ?_
      rintro e1 wq ⟨rfl, rfl⟩
      go_wp2_with fail
      refine (Q2.out _ (Lib.hid (HQ.out _ HB2.out).2.2)).mono ?_
      rintro e1 w3 ⟨rfl, hb⟩
      have HB3 := Lib.hid (HB2.out.trans (hb.mono HB2.out.size))
      clear hb Q1 Q2 CF
      have hq0 := (HQ.out _ HB3.out).1.1
      have hq1 := (HQ.out _ HB3.out).1.2
      have hq2 := (HQ.out _ HB3.out).2.1.1
      have hq3 := (HQ.out _ HB3.out).2.1.2
      have HD := Lib.hid HB3.out.drew
      go_upto_region 11 with fail
      go_cut [6] (fun r wx => r = .bool true ∧ Hid (Below W.heap.size W wx))
      case first =>
        go_region_held3 (fun w' => (w'.cell? ⟨g, 0, none⟩ = some (.int .u32 (a : Int)) ∧ w'.cell? ⟨g, 1, none⟩ = some (.int .u32 (b : Int))) ∧ (w'.cell? ⟨g + 1, 0, none⟩ = some (.int .i64 p) ∧ w'.cell? ⟨g + 1, 1, none⟩ = some (.int .i64 q)))
          (first | go_keep | exact ⟨(HQ.out _ HB4.out).1, (HQ.out _ HB4.out).2.1⟩)
          (first
            | (go_simp; go_at_call 25; refine (C1.out _).mono ?_; rintro e w4 ⟨rfl, hb4⟩; have HB4 := Lib.hid (HD.out.trans (hb4.mono HD.out.size)); clear hb4)
            | (go_simp; go_at_call 26; refine (C2.out _).mono ?_; rintro e w' ⟨rfl, rfl⟩))
        all_goals
          go_wp2_with fail
          go_meet
          exact ⟨rfl, HB4⟩
      case rest =>
        obtain ⟨rfl, HBc⟩ := hcut
        go_wp2_with fail
        go_ret
        exact ⟨rfl, HB0.out.trans (HBc.out.mono HSW.out)⟩
end Go.Proofs.YtloaaaddbmcpdaaDoor
