/- Contract of package theseusref07: Put. -/
import Derived.Test.YtohggpaffmcfoaaDoorLow
import Derived.Test.YtohggpaffmcfoaaDoorRulP
namespace Go.Proofs.YtohggpaffmcfoaaDoor
open Go.RowKit
set_option linter.unusedVariables false
set_option maxRecDepth 100000
set_option linter.unusedSimpArgs false

def nums4 (a l c n : Int) : Array Value := #[.int .i64 a, .int .i64 l, .int .i64 c, .int .i64 n]
/-- what stands in memory while the document's Put goes over the numbers -/
structure PW (w : World) (g : Nat) (a l c n : Int) (r : Value) (wx : World) : Prop where
  num : wx.heap[g + 2]? = some (.cells (nums4 a l c n) 93 (0, 0))
  siz : wx.heap[g + 3]? = some (.cells (nums4 4 1 1 2) 93 (0, 0))
  bel : Below g w wx
  far : ∀ q, r.ownBlock = some q → q ≠ g + 2 ∧ q ≠ g + 3 ∧ g ≤ q
section
variable {w wx wy : World} {g : Nat} {a l c n : Int} {r r' : Value}
theorem PW.size (h : PW w g a l c n r wx) : g + 3 < wx.heap.size := (Array.getElem?_eq_some_iff.1 h.siz).1
theorem PW.next (h : PW w g a l c n r wx) (hb : Below wx.heap.size wx wy) : PW w g a l c n r wy := by
  have h2 := h.size
  exact ⟨by rw [hb.block _ (by omega)]; exact h.num, by rw [hb.block _ h2]; exact h.siz, h.bel.trans (hb.mono (by omega)), h.far⟩
theorem PW.grown (h : PW w g a l c n r wx) (hg : wx.grownBy wy r.ownBlock) (hr : r'.ownBlock = r.ownBlock ∨ r'.ownBlock = some wx.heap.size) : PW w g a l c n r' wy := by
  have h2 := h.size
  refine ⟨?_, ?_, h.bel.grown hg (by omega) (fun q hq => (h.far q hq).2.2), fun q hq => ?_⟩
  · rw [hg.block _ (by omega) (fun e => (h.far _ e.symm).1 rfl)]; exact h.num
  · rw [hg.block _ h2 (fun e => (h.far _ e.symm).2.1 rfl)]; exact h.siz
  · rcases hr with hr | hr
    · exact h.far q (by rw [← hr]; exact hq)
    · rw [hr] at hq
      injection hq with hq
      omega
theorem PW.ncell (h : PW w g a l c n r wx) (j : Nat) : wx.cell? ⟨g + 2, j, none⟩ = (nums4 a l c n)[j]? := Joins.cell_of_block h.num j
theorem PW.scell (h : PW w g a l c n r wx) (j : Nat) : wx.cell? ⟨g + 3, j, none⟩ = (nums4 4 1 1 2)[j]? := Joins.cell_of_block h.siz j
end
theorem rput_fits (n : Nat) (s : Nat) (w : World) (h1 : 1 ≤ s) (h2 : s ≤ 4) (hn : n < 256 ^ s) (hw : n < 9223372036854775808) : Calls Tryd.prog 48 #[.int .i64 n, .int .i64 s] w fun e w' =>
    ∃ v, e = .returned (.tuple #[v, .int .i64 0]) ∧ IsB w' v (be s n) ∧ Below w.heap.size w w' := by
  have h := rput_any n s w (by refine WalkArith.wf_i64 ?_; omega)
  rw [putS, if_pos ⟨⟨by omega, by omega⟩, by omega, by simpa using hn⟩] at h
  simpa using h
theorem rput_fits_not (n : Int) (s : Nat) (w : World) (hw : (Lit.int .i64 n).wf = true) (hn : n < 0 ∨ (256 ^ s : Nat) ≤ n) : Calls Tryd.prog 48 #[.int .i64 n, .int .i64 s] w fun e w' =>
    ∃ v, e = .returned (.tuple #[v, .int .i64 1]) ∧ IsB w' v [] ∧ Below w.heap.size w w' := by
  have h := rput_any n s w hw
  rw [putS, if_neg] at h
  · exact h
  · rintro ⟨_, h0, h3⟩
    rw [Int.toNat_natCast] at h3
    rcases hn with hn | hn <;> omega
set_option maxHeartbeats 4000000 in
theorem rrulput_ok (a : Nat) (l c n : Int) (w : World) (ha : (a : Int) ≤ 4294967295) (hl : 0 ≤ l ∧ l ≤ 255) (hc : 0 ≤ c ∧ c ≤ 255) (hn : 0 ≤ n ∧ n ≤ 65535) :
    Calls Tryd.prog 51 #[.agg #[.int .u32 a, .int .i64 l, .int .i64 c, .int .i64 n]] w fun e w' => ∃ v, e = .returned (.tuple #[v, .int .i64 0]) ∧ IsB w' v (rb a l.toNat c.toNat n.toNat 4) ∧ Below w.heap.size w w' := by
  have P0 := Lib.hid (fun w => rput_fits a 4 w (by omega) (by omega) (by omega) (by omega))
  have P1 := Lib.hid (fun w => rput_fits l.toNat 1 w (by omega) (by omega) (by omega) (by omega))
  rw [Int.toNat_of_nonneg hl.1] at P1
  have P2 := Lib.hid (fun w => rput_fits c.toNat 1 w (by omega) (by omega) (by omega) (by omega))
  rw [Int.toNat_of_nonneg hc.1] at P2
  have P3 := Lib.hid (fun w => rput_fits n.toNat 2 w (by omega) (by omega) (by omega) (by omega))
  rw [Int.toNat_of_nonneg hn.1] at P3
  have hconv : IntKind.i64.wrap (a : Int) = (a : Int) := by rw [IntKind.wrap_i64]; omega
  clear ha hl hc hn
  have HI := Lib.hid byte_info
  go_enter Tryd.func51, Tryd.ntmps51
  go_wp2_with fail
  obtain ⟨g, hg⟩ : ∃ g, w.heap.size = g := ⟨_, rfl⟩
  have HP0 : Hid (PW w g a l c n (.slice (some ⟨g + 1, 0, none⟩) 0 0) ((((w.alloc (.cells #[.int .u32 (a : Int), .int .i64 l, .int .i64 c, .int .i64 n] 47)).alloc (.cells #[] 5)).alloc (.cells (nums4 a l c n) 93)).alloc (.cells (nums4 4 1 1 2) 93))) := by
    subst hg
    have e1 := heap_alloc2_old ((w.alloc (.cells #[.int .u32 (a : Int), .int .i64 l, .int .i64 c, .int .i64 n] 47)).alloc (.cells #[] 5)) (.cells (nums4 a l c n) 93) (.cells (nums4 4 1 1 2) 93)
    have e2 := heap_alloc2_new ((w.alloc (.cells #[.int .u32 (a : Int), .int .i64 l, .int .i64 c, .int .i64 n] 47)).alloc (.cells #[] 5)) (.cells (nums4 a l c n) 93) (.cells (nums4 4 1 1 2) 93)
    simp only [World.size_alloc, Nat.add_assoc, Nat.reduceAdd] at e1 e2
    refine ⟨e1, e2, ?_, fun q hq => by simp [Value.ownBlock] at hq; omega⟩
    exact ((((Below.refl w.heap.size w).alloc (Nat.le_refl _) _).alloc (by simp only [World.size_alloc]; omega) _).alloc (by simp only [World.size_alloc]; omega) _).alloc (by simp only [World.size_alloc]; omega) _
  have HO0 : Hid (World.ownsRow ((((w.alloc (.cells #[.int .u32 (a : Int), .int .i64 l, .int .i64 c, .int .i64 n] 47)).alloc (.cells #[] 5)).alloc (.cells (nums4 a l c n) 93)).alloc (.cells (nums4 4 1 1 2) 93)) g 5 1 (.slice (some ⟨g + 1, 0, none⟩) 0 0) 0 (vals (rb a l.toNat c.toNat n.toNat 0))) := by
    subst hg
    have h := World.ownsRow_lit (e := 5) (size := 1) (w.alloc (.cells #[.int .u32 (a : Int), .int .i64 l, .int .i64 c, .int .i64 n] 47)) #[] 0 (Nat.le_refl _) (by decide) rfl
    rw [World.size_alloc] at h
    exact own_bel (own_base h (by omega)) (((Below.refl _ _).alloc (Nat.le_refl _) _).alloc (by simp only [World.size_alloc]; omega) _)
  obtain ⟨w1, hw1⟩ : ∃ w1, (((w.alloc (.cells #[.int .u32 (a : Int), .int .i64 l, .int .i64 c, .int .i64 n] 47)).alloc (.cells #[] 5)).alloc (.cells #[.int .i64 (a : Int), .int .i64 l, .int .i64 c, .int .i64 n] 93)).alloc (.cells #[.int .i64 4, .int .i64 1, .int .i64 1, .int .i64 2] 93) = w1 := ⟨_, rfl⟩
  simp only [nums4] at HP0 HO0
  rw [hw1] at HP0 HO0
  rw [hw1]
  simp only [hg, Nat.add_assoc, Nat.reduceAdd]
  have HGG := Lib.hid hg
  clear hw1 hg
  refine wp_loop_rounds 5 ?_
  rw [rounds_succ]
  go_upto_region 7 with fail
  have qn : w1.cell? ⟨g + 2, 0, none⟩ = some (.int .i64 (a : Int)) := HP0.out.ncell 0
  have qs : w1.cell? ⟨g + 3, 0, none⟩ = some (.int .i64 4) := HP0.out.scell 0
  have HD := Lib.hid (Below.refl w1.heap.size w1).drew
  go_cut [8, 9] (fun b x wx => x = .int .i64 0 ∧ Hid (IsB wx b (be 4 a)) ∧ Hid (Below w1.heap.size w1 wx))
  case first =>
    go_region_held3 (fun w' => w'.cell? ⟨g + 2, 0, none⟩ = some (.int .i64 (a : Int)) ∧ w'.cell? ⟨g + 3, 0, none⟩ = some (.int .i64 4))
      (first | go_keep | exact ⟨(HP0.out.next K2.out).ncell 0, (HP0.out.next K2.out).scell 0⟩)
      (first | (go_simp; go_at_call 48; refine (P0.out _).mono ?_; rintro e x2 ⟨v2, rfl, hv2, hb2⟩; have K2 := Lib.hid (HD.out.trans (hb2.mono HD.out.size)); have HV2 := Lib.hid hv2; clear hb2 hv2))
    all_goals
      go_wp2_with fail
      go_meet
      exact ⟨rfl, HV2, K2⟩
  case rest =>
    obtain ⟨rfl, HIB, HBc⟩ := hcut
    have HY0 := Lib.hid (HP0.out.next HBc.out)
    have HOX0 := Lib.hid (own_bel HO0.out HBc.out)
    generalize wc = y0 at *
    clear HBc HP0 HO0 qn qs HD P0
    obtain ⟨A, m, cc, rfl, hnc, hcm, hm, hA⟩ := HIB.out
    rw [be_length] at hm
    subst hm
    have HA := Lib.hid hA
    clear hA hnc hcm HIB
    obtain ⟨i0, hi0, hz0, hz1, hz2⟩ := info_parts HI.out
    have hbase : g ≤ y0.heap.size := by have := HY0.out.size; omega
    go_wp2_with (at_builtin; refine wpList_append_has _ rfl (.tmp 39) (.tmp 40) _ rfl g 5 i0 (.int .u8 0) 1 Tryd.underlying25 hi0 hz0 hz1 hz2 rfl (.slice (some ⟨g + 1, 0, none⟩) 0 0) 0 (vals (rb a l.toNat c.toNat n.toNat 0)) rfl HOX0.out _ 4 _ (vals (be 4 a)) rfl (by rw [vals_length, be_length]) HA.out (vals_one _) (by unfold maxLen; omega) (by omega) hbase ?_; intro r1 w2 hown2 hgrow2 hb2; have HO1 : Hid (w2.ownsRow g 5 1 r1 4 (vals (rb a l.toNat c.toNat n.toNat 1))) := (own_next hown2); have HP1 := Lib.hid (HY0.out.grown hgrow2 hb2); clear hown2 hgrow2 hb2)
    clear HA hi0 hz0 hz1 hz2 HY0 HOX0 hbase
    rw [rounds_succ]
    go_upto_region 7 with fail
    have qn : w2.cell? ⟨g + 2, 1, none⟩ = some (.int .i64 l) := HP1.out.ncell 1
    have qs : w2.cell? ⟨g + 3, 1, none⟩ = some (.int .i64 1) := HP1.out.scell 1
    have HD := Lib.hid (Below.refl w2.heap.size w2).drew
    go_cut [8, 9] (fun b x wx => x = .int .i64 0 ∧ Hid (IsB wx b (be 1 l.toNat)) ∧ Hid (Below w2.heap.size w2 wx))
    case first =>
      go_region_held3 (fun w' => w'.cell? ⟨g + 2, 1, none⟩ = some (.int .i64 l) ∧ w'.cell? ⟨g + 3, 1, none⟩ = some (.int .i64 1))
        (first | go_keep | exact ⟨(HP1.out.next K2.out).ncell 1, (HP1.out.next K2.out).scell 1⟩)
        (first | (go_simp; go_at_call 48; refine (P1.out _).mono ?_; rintro e x2 ⟨v2, rfl, hv2, hb2⟩; have K2 := Lib.hid (HD.out.trans (hb2.mono HD.out.size)); have HV2 := Lib.hid hv2; clear hb2 hv2))
      all_goals
        go_wp2_with fail
        go_meet
        exact ⟨rfl, HV2, K2⟩
    case rest =>
      obtain ⟨rfl, HIB, HBc⟩ := hcut
      have HY1 := Lib.hid (HP1.out.next HBc.out)
      have HOX1 := Lib.hid (own_bel HO1.out HBc.out)
      generalize wc = y1 at *
      clear HBc HP1 HO1 qn qs HD P1
      obtain ⟨A, m, cc, rfl, hnc, hcm, hm, hA⟩ := HIB.out
      rw [be_length] at hm
      subst hm
      have HA := Lib.hid hA
      clear hA hnc hcm HIB
      obtain ⟨i0, hi0, hz0, hz1, hz2⟩ := info_parts HI.out
      have hbase : g ≤ y1.heap.size := by have := HY1.out.size; omega
      go_wp2_with (at_builtin; refine wpList_append_has _ rfl (.tmp 39) (.tmp 40) _ rfl g 5 i0 (.int .u8 0) 1 Tryd.underlying25 hi0 hz0 hz1 hz2 rfl r1 4 (vals (rb a l.toNat c.toNat n.toNat 1)) rfl HOX1.out _ 1 _ (vals (be 1 l.toNat)) rfl (by rw [vals_length, be_length]) HA.out (vals_one _) (by unfold maxLen; omega) (by omega) hbase ?_; intro r2 w3 hown2 hgrow2 hb2; have HO2 : Hid (w3.ownsRow g 5 1 r2 5 (vals (rb a l.toNat c.toNat n.toNat 2))) := (own_next hown2); have HP2 := Lib.hid (HY1.out.grown hgrow2 hb2); clear hown2 hgrow2 hb2)
      clear HA hi0 hz0 hz1 hz2 HY1 HOX1 hbase
      rw [rounds_succ]
      go_upto_region 7 with fail
      have qn : w3.cell? ⟨g + 2, 2, none⟩ = some (.int .i64 c) := HP2.out.ncell 2
      have qs : w3.cell? ⟨g + 3, 2, none⟩ = some (.int .i64 1) := HP2.out.scell 2
      have HD := Lib.hid (Below.refl w3.heap.size w3).drew
      go_cut [8, 9] (fun b x wx => x = .int .i64 0 ∧ Hid (IsB wx b (be 1 c.toNat)) ∧ Hid (Below w3.heap.size w3 wx))
      case first =>
        go_region_held3 (fun w' => w'.cell? ⟨g + 2, 2, none⟩ = some (.int .i64 c) ∧ w'.cell? ⟨g + 3, 2, none⟩ = some (.int .i64 1))
          (first | go_keep | exact ⟨(HP2.out.next K2.out).ncell 2, (HP2.out.next K2.out).scell 2⟩)
          (first | (go_simp; go_at_call 48; refine (P2.out _).mono ?_; rintro e x2 ⟨v2, rfl, hv2, hb2⟩; have K2 := Lib.hid (HD.out.trans (hb2.mono HD.out.size)); have HV2 := Lib.hid hv2; clear hb2 hv2))
        all_goals
          go_wp2_with fail
          go_meet
          exact ⟨rfl, HV2, K2⟩
      case rest =>
        obtain ⟨rfl, HIB, HBc⟩ := hcut
        have HY2 := Lib.hid (HP2.out.next HBc.out)
        have HOX2 := Lib.hid (own_bel HO2.out HBc.out)
        generalize wc = y2 at *
        clear HBc HP2 HO2 qn qs HD P2
        obtain ⟨A, m, cc, rfl, hnc, hcm, hm, hA⟩ := HIB.out
        rw [be_length] at hm
        subst hm
        have HA := Lib.hid hA
        clear hA hnc hcm HIB
        obtain ⟨i0, hi0, hz0, hz1, hz2⟩ := info_parts HI.out
        have hbase : g ≤ y2.heap.size := by have := HY2.out.size; omega
        go_wp2_with (at_builtin; refine wpList_append_has _ rfl (.tmp 39) (.tmp 40) _ rfl g 5 i0 (.int .u8 0) 1 Tryd.underlying25 hi0 hz0 hz1 hz2 rfl r2 5 (vals (rb a l.toNat c.toNat n.toNat 2)) rfl HOX2.out _ 1 _ (vals (be 1 c.toNat)) rfl (by rw [vals_length, be_length]) HA.out (vals_one _) (by unfold maxLen; omega) (by omega) hbase ?_; intro r3 w4 hown2 hgrow2 hb2; have HO3 : Hid (w4.ownsRow g 5 1 r3 6 (vals (rb a l.toNat c.toNat n.toNat 3))) := (own_next hown2); have HP3 := Lib.hid (HY2.out.grown hgrow2 hb2); clear hown2 hgrow2 hb2)
        clear HA hi0 hz0 hz1 hz2 HY2 HOX2 hbase
        rw [rounds_succ]
        go_upto_region 7 with fail
        have qn : w4.cell? ⟨g + 2, 3, none⟩ = some (.int .i64 n) := HP3.out.ncell 3
        have qs : w4.cell? ⟨g + 3, 3, none⟩ = some (.int .i64 2) := HP3.out.scell 3
        have HD := Lib.hid (Below.refl w4.heap.size w4).drew
        go_cut [8, 9] (fun b x wx => x = .int .i64 0 ∧ Hid (IsB wx b (be 2 n.toNat)) ∧ Hid (Below w4.heap.size w4 wx))
        case first =>
          go_region_held3 (fun w' => w'.cell? ⟨g + 2, 3, none⟩ = some (.int .i64 n) ∧ w'.cell? ⟨g + 3, 3, none⟩ = some (.int .i64 2))
            (first | go_keep | exact ⟨(HP3.out.next K2.out).ncell 3, (HP3.out.next K2.out).scell 3⟩)
            (first | (go_simp; go_at_call 48; refine (P3.out _).mono ?_; rintro e x2 ⟨v2, rfl, hv2, hb2⟩; have K2 := Lib.hid (HD.out.trans (hb2.mono HD.out.size)); have HV2 := Lib.hid hv2; clear hb2 hv2))
          all_goals
            go_wp2_with fail
            go_meet
            exact ⟨rfl, HV2, K2⟩
        case rest =>
          obtain ⟨rfl, HIB, HBc⟩ := hcut
          have HY3 := Lib.hid (HP3.out.next HBc.out)
          have HOX3 := Lib.hid (own_bel HO3.out HBc.out)
          generalize wc = y3 at *
          clear HBc HP3 HO3 qn qs HD P3
          obtain ⟨A, m, cc, rfl, hnc, hcm, hm, hA⟩ := HIB.out
          rw [be_length] at hm
          subst hm
          have HA := Lib.hid hA
          clear hA hnc hcm HIB
          obtain ⟨i0, hi0, hz0, hz1, hz2⟩ := info_parts HI.out
          have hbase : g ≤ y3.heap.size := by have := HY3.out.size; omega
          go_wp2_with (at_builtin; refine wpList_append_has _ rfl (.tmp 39) (.tmp 40) _ rfl g 5 i0 (.int .u8 0) 1 Tryd.underlying25 hi0 hz0 hz1 hz2 rfl r3 6 (vals (rb a l.toNat c.toNat n.toNat 3)) rfl HOX3.out _ 2 _ (vals (be 2 n.toNat)) rfl (by rw [vals_length, be_length]) HA.out (vals_one _) (by unfold maxLen; omega) (by omega) hbase ?_; intro r4 w5 hown2 hgrow2 hb2; have HO4 : Hid (w5.ownsRow g 5 1 r4 8 (vals (rb a l.toNat c.toNat n.toNat 4))) := (own_next hown2); have HP4 := Lib.hid (HY3.out.grown hgrow2 hb2); clear hown2 hgrow2 hb2)
          clear HA hi0 hz0 hz1 hz2 HY3 HOX3 hbase
          rw [rounds_succ]
          go_wp2_with fail
          go_ret2
          exact ⟨_, rfl, IsB.of_own HO4.out, by have h := HP4.out.bel; rw [HGG.out]; exact h⟩
set_option maxHeartbeats 4000000 in
theorem rrulput_no1 (a : Nat) (l c n : Int) (w : World) (ha : (a : Int) ≤ 4294967295) (hw : (Lit.int .i64 l).wf = true) (hl : l < 0 ∨ 256 ≤ l) :
    Calls Tryd.prog 51 #[.agg #[.int .u32 a, .int .i64 l, .int .i64 c, .int .i64 n]] w fun e w' => ∃ v, e = .returned (.tuple #[v, .int .i64 1]) ∧ IsB w' v [] ∧ Below w.heap.size w w' := by
  have P0 := Lib.hid (fun w => rput_fits a 4 w (by omega) (by omega) (by omega) (by omega))
  have P1 := Lib.hid (fun w => rput_fits_not l 1 w hw (by omega))
  have hconv : IntKind.i64.wrap (a : Int) = (a : Int) := by rw [IntKind.wrap_i64]; omega
  clear ha hw hl
  have HI := Lib.hid byte_info
  go_enter Tryd.func51, Tryd.ntmps51
  go_wp2_with fail
  obtain ⟨g, hg⟩ : ∃ g, w.heap.size = g := ⟨_, rfl⟩
  have HP0 : Hid (PW w g a l c n (.slice (some ⟨g + 1, 0, none⟩) 0 0) ((((w.alloc (.cells #[.int .u32 (a : Int), .int .i64 l, .int .i64 c, .int .i64 n] 47)).alloc (.cells #[] 5)).alloc (.cells (nums4 a l c n) 93)).alloc (.cells (nums4 4 1 1 2) 93))) := by
    subst hg
    have e1 := heap_alloc2_old ((w.alloc (.cells #[.int .u32 (a : Int), .int .i64 l, .int .i64 c, .int .i64 n] 47)).alloc (.cells #[] 5)) (.cells (nums4 a l c n) 93) (.cells (nums4 4 1 1 2) 93)
    have e2 := heap_alloc2_new ((w.alloc (.cells #[.int .u32 (a : Int), .int .i64 l, .int .i64 c, .int .i64 n] 47)).alloc (.cells #[] 5)) (.cells (nums4 a l c n) 93) (.cells (nums4 4 1 1 2) 93)
    simp only [World.size_alloc, Nat.add_assoc, Nat.reduceAdd] at e1 e2
    refine ⟨e1, e2, ?_, fun q hq => by simp [Value.ownBlock] at hq; omega⟩
    exact ((((Below.refl w.heap.size w).alloc (Nat.le_refl _) _).alloc (by simp only [World.size_alloc]; omega) _).alloc (by simp only [World.size_alloc]; omega) _).alloc (by simp only [World.size_alloc]; omega) _
  have HO0 : Hid (World.ownsRow ((((w.alloc (.cells #[.int .u32 (a : Int), .int .i64 l, .int .i64 c, .int .i64 n] 47)).alloc (.cells #[] 5)).alloc (.cells (nums4 a l c n) 93)).alloc (.cells (nums4 4 1 1 2) 93)) g 5 1 (.slice (some ⟨g + 1, 0, none⟩) 0 0) 0 (vals (rb a l.toNat c.toNat n.toNat 0))) := by
    subst hg
    have h := World.ownsRow_lit (e := 5) (size := 1) (w.alloc (.cells #[.int .u32 (a : Int), .int .i64 l, .int .i64 c, .int .i64 n] 47)) #[] 0 (Nat.le_refl _) (by decide) rfl
    rw [World.size_alloc] at h
    exact own_bel (own_base h (by omega)) (((Below.refl _ _).alloc (Nat.le_refl _) _).alloc (by simp only [World.size_alloc]; omega) _)
  obtain ⟨w1, hw1⟩ : ∃ w1, (((w.alloc (.cells #[.int .u32 (a : Int), .int .i64 l, .int .i64 c, .int .i64 n] 47)).alloc (.cells #[] 5)).alloc (.cells #[.int .i64 (a : Int), .int .i64 l, .int .i64 c, .int .i64 n] 93)).alloc (.cells #[.int .i64 4, .int .i64 1, .int .i64 1, .int .i64 2] 93) = w1 := ⟨_, rfl⟩
  simp only [nums4] at HP0 HO0
  rw [hw1] at HP0 HO0
  rw [hw1]
  simp only [hg, Nat.add_assoc, Nat.reduceAdd]
  have HGG := Lib.hid hg
  clear hw1 hg
  refine wp_loop_rounds 5 ?_
  rw [rounds_succ]
  go_upto_region 7 with fail
  have qn : w1.cell? ⟨g + 2, 0, none⟩ = some (.int .i64 (a : Int)) := HP0.out.ncell 0
  have qs : w1.cell? ⟨g + 3, 0, none⟩ = some (.int .i64 4) := HP0.out.scell 0
  have HD := Lib.hid (Below.refl w1.heap.size w1).drew
  go_cut [8, 9] (fun b x wx => x = .int .i64 0 ∧ Hid (IsB wx b (be 4 a)) ∧ Hid (Below w1.heap.size w1 wx))
  case first =>
    go_region_held3 (fun w' => w'.cell? ⟨g + 2, 0, none⟩ = some (.int .i64 (a : Int)) ∧ w'.cell? ⟨g + 3, 0, none⟩ = some (.int .i64 4))
      (first | go_keep | exact ⟨(HP0.out.next K2.out).ncell 0, (HP0.out.next K2.out).scell 0⟩)
      (first | (go_simp; go_at_call 48; refine (P0.out _).mono ?_; rintro e x2 ⟨v2, rfl, hv2, hb2⟩; have K2 := Lib.hid (HD.out.trans (hb2.mono HD.out.size)); have HV2 := Lib.hid hv2; clear hb2 hv2))
    all_goals
      go_wp2_with fail
      go_meet
      exact ⟨rfl, HV2, K2⟩
  case rest =>
    obtain ⟨rfl, HIB, HBc⟩ := hcut
    have HY0 := Lib.hid (HP0.out.next HBc.out)
    have HOX0 := Lib.hid (own_bel HO0.out HBc.out)
    generalize wc = y0 at *
    clear HBc HP0 HO0 qn qs HD P0
    obtain ⟨A, m, cc, rfl, hnc, hcm, hm, hA⟩ := HIB.out
    rw [be_length] at hm
    subst hm
    have HA := Lib.hid hA
    clear hA hnc hcm HIB
    obtain ⟨i0, hi0, hz0, hz1, hz2⟩ := info_parts HI.out
    have hbase : g ≤ y0.heap.size := by have := HY0.out.size; omega
    go_wp2_with (at_builtin; refine wpList_append_has _ rfl (.tmp 39) (.tmp 40) _ rfl g 5 i0 (.int .u8 0) 1 Tryd.underlying25 hi0 hz0 hz1 hz2 rfl (.slice (some ⟨g + 1, 0, none⟩) 0 0) 0 (vals (rb a l.toNat c.toNat n.toNat 0)) rfl HOX0.out _ 4 _ (vals (be 4 a)) rfl (by rw [vals_length, be_length]) HA.out (vals_one _) (by unfold maxLen; omega) (by omega) hbase ?_; intro r1 w2 hown2 hgrow2 hb2; have HO1 : Hid (w2.ownsRow g 5 1 r1 4 (vals (rb a l.toNat c.toNat n.toNat 1))) := (own_next hown2); have HP1 := Lib.hid (HY0.out.grown hgrow2 hb2); clear hown2 hgrow2 hb2)
    clear HA hi0 hz0 hz1 hz2 HY0 HOX0 hbase
    rw [rounds_succ]
    go_upto_region 7 with fail
    have qn : w2.cell? ⟨g + 2, 1, none⟩ = some (.int .i64 l) := HP1.out.ncell 1
    have qs : w2.cell? ⟨g + 3, 1, none⟩ = some (.int .i64 1) := HP1.out.scell 1
    have HD := Lib.hid (Below.refl w2.heap.size w2).drew
    go_cut [8, 9] (fun b x wx => x = .int .i64 1 ∧ Hid (IsB wx b ([])) ∧ Hid (Below w2.heap.size w2 wx))
    case first =>
      go_region_held3 (fun w' => w'.cell? ⟨g + 2, 1, none⟩ = some (.int .i64 l) ∧ w'.cell? ⟨g + 3, 1, none⟩ = some (.int .i64 1))
        (first | go_keep | exact ⟨(HP1.out.next K2.out).ncell 1, (HP1.out.next K2.out).scell 1⟩)
        (first | (go_simp; go_at_call 48; refine (P1.out _).mono ?_; rintro e x2 ⟨v2, rfl, hv2, hb2⟩; have K2 := Lib.hid (HD.out.trans (hb2.mono HD.out.size)); have HV2 := Lib.hid hv2; clear hb2 hv2))
      all_goals
        go_wp2_with fail
        go_meet
        exact ⟨rfl, HV2, K2⟩
    case rest =>
      obtain ⟨rfl, HIB, HBc⟩ := hcut
      have HY1 := Lib.hid (HP1.out.next HBc.out)
      have HOX1 := Lib.hid (own_bel HO1.out HBc.out)
      generalize wc = y1 at *
      clear HBc HP1 HO1 qn qs HD P1
      go_wp2_with fail
      go_ret2
      exact ⟨_, rfl, IsB.nil_ _, by have h := HY1.out.bel; rw [HGG.out]; exact h⟩
set_option maxHeartbeats 4000000 in
theorem rrulput_no2 (a : Nat) (l c n : Int) (w : World) (ha : (a : Int) ≤ 4294967295) (hw : (Lit.int .i64 c).wf = true) (hl : 0 ≤ l ∧ l ≤ 255) (hc : c < 0 ∨ 256 ≤ c) :
    Calls Tryd.prog 51 #[.agg #[.int .u32 a, .int .i64 l, .int .i64 c, .int .i64 n]] w fun e w' => ∃ v, e = .returned (.tuple #[v, .int .i64 1]) ∧ IsB w' v [] ∧ Below w.heap.size w w' := by
  have P0 := Lib.hid (fun w => rput_fits a 4 w (by omega) (by omega) (by omega) (by omega))
  have P1 := Lib.hid (fun w => rput_fits l.toNat 1 w (by omega) (by omega) (by omega) (by omega))
  rw [Int.toNat_of_nonneg hl.1] at P1
  have P2 := Lib.hid (fun w => rput_fits_not c 1 w hw (by omega))
  have hconv : IntKind.i64.wrap (a : Int) = (a : Int) := by rw [IntKind.wrap_i64]; omega
  clear ha hw hl hc
  have HI := Lib.hid byte_info
  go_enter Tryd.func51, Tryd.ntmps51
  go_wp2_with fail
  obtain ⟨g, hg⟩ : ∃ g, w.heap.size = g := ⟨_, rfl⟩
  have HP0 : Hid (PW w g a l c n (.slice (some ⟨g + 1, 0, none⟩) 0 0) ((((w.alloc (.cells #[.int .u32 (a : Int), .int .i64 l, .int .i64 c, .int .i64 n] 47)).alloc (.cells #[] 5)).alloc (.cells (nums4 a l c n) 93)).alloc (.cells (nums4 4 1 1 2) 93))) := by
    subst hg
    have e1 := heap_alloc2_old ((w.alloc (.cells #[.int .u32 (a : Int), .int .i64 l, .int .i64 c, .int .i64 n] 47)).alloc (.cells #[] 5)) (.cells (nums4 a l c n) 93) (.cells (nums4 4 1 1 2) 93)
    have e2 := heap_alloc2_new ((w.alloc (.cells #[.int .u32 (a : Int), .int .i64 l, .int .i64 c, .int .i64 n] 47)).alloc (.cells #[] 5)) (.cells (nums4 a l c n) 93) (.cells (nums4 4 1 1 2) 93)
    simp only [World.size_alloc, Nat.add_assoc, Nat.reduceAdd] at e1 e2
    refine ⟨e1, e2, ?_, fun q hq => by simp [Value.ownBlock] at hq; omega⟩
    exact ((((Below.refl w.heap.size w).alloc (Nat.le_refl _) _).alloc (by simp only [World.size_alloc]; omega) _).alloc (by simp only [World.size_alloc]; omega) _).alloc (by simp only [World.size_alloc]; omega) _
  have HO0 : Hid (World.ownsRow ((((w.alloc (.cells #[.int .u32 (a : Int), .int .i64 l, .int .i64 c, .int .i64 n] 47)).alloc (.cells #[] 5)).alloc (.cells (nums4 a l c n) 93)).alloc (.cells (nums4 4 1 1 2) 93)) g 5 1 (.slice (some ⟨g + 1, 0, none⟩) 0 0) 0 (vals (rb a l.toNat c.toNat n.toNat 0))) := by
    subst hg
    have h := World.ownsRow_lit (e := 5) (size := 1) (w.alloc (.cells #[.int .u32 (a : Int), .int .i64 l, .int .i64 c, .int .i64 n] 47)) #[] 0 (Nat.le_refl _) (by decide) rfl
    rw [World.size_alloc] at h
    exact own_bel (own_base h (by omega)) (((Below.refl _ _).alloc (Nat.le_refl _) _).alloc (by simp only [World.size_alloc]; omega) _)
  obtain ⟨w1, hw1⟩ : ∃ w1, (((w.alloc (.cells #[.int .u32 (a : Int), .int .i64 l, .int .i64 c, .int .i64 n] 47)).alloc (.cells #[] 5)).alloc (.cells #[.int .i64 (a : Int), .int .i64 l, .int .i64 c, .int .i64 n] 93)).alloc (.cells #[.int .i64 4, .int .i64 1, .int .i64 1, .int .i64 2] 93) = w1 := ⟨_, rfl⟩
  simp only [nums4] at HP0 HO0
  rw [hw1] at HP0 HO0
  rw [hw1]
  simp only [hg, Nat.add_assoc, Nat.reduceAdd]
  have HGG := Lib.hid hg
  clear hw1 hg
  refine wp_loop_rounds 5 ?_
  rw [rounds_succ]
  go_upto_region 7 with fail
  have qn : w1.cell? ⟨g + 2, 0, none⟩ = some (.int .i64 (a : Int)) := HP0.out.ncell 0
  have qs : w1.cell? ⟨g + 3, 0, none⟩ = some (.int .i64 4) := HP0.out.scell 0
  have HD := Lib.hid (Below.refl w1.heap.size w1).drew
  go_cut [8, 9] (fun b x wx => x = .int .i64 0 ∧ Hid (IsB wx b (be 4 a)) ∧ Hid (Below w1.heap.size w1 wx))
  case first =>
    go_region_held3 (fun w' => w'.cell? ⟨g + 2, 0, none⟩ = some (.int .i64 (a : Int)) ∧ w'.cell? ⟨g + 3, 0, none⟩ = some (.int .i64 4))
      (first | go_keep | exact ⟨(HP0.out.next K2.out).ncell 0, (HP0.out.next K2.out).scell 0⟩)
      (first | (go_simp; go_at_call 48; refine (P0.out _).mono ?_; rintro e x2 ⟨v2, rfl, hv2, hb2⟩; have K2 := Lib.hid (HD.out.trans (hb2.mono HD.out.size)); have HV2 := Lib.hid hv2; clear hb2 hv2))
    all_goals
      go_wp2_with fail
      go_meet
      exact ⟨rfl, HV2, K2⟩
  case rest =>
    obtain ⟨rfl, HIB, HBc⟩ := hcut
    have HY0 := Lib.hid (HP0.out.next HBc.out)
    have HOX0 := Lib.hid (own_bel HO0.out HBc.out)
    generalize wc = y0 at *
    clear HBc HP0 HO0 qn qs HD P0
    obtain ⟨A, m, cc, rfl, hnc, hcm, hm, hA⟩ := HIB.out
    rw [be_length] at hm
    subst hm
    have HA := Lib.hid hA
    clear hA hnc hcm HIB
    obtain ⟨i0, hi0, hz0, hz1, hz2⟩ := info_parts HI.out
    have hbase : g ≤ y0.heap.size := by have := HY0.out.size; omega
    go_wp2_with (at_builtin; refine wpList_append_has _ rfl (.tmp 39) (.tmp 40) _ rfl g 5 i0 (.int .u8 0) 1 Tryd.underlying25 hi0 hz0 hz1 hz2 rfl (.slice (some ⟨g + 1, 0, none⟩) 0 0) 0 (vals (rb a l.toNat c.toNat n.toNat 0)) rfl HOX0.out _ 4 _ (vals (be 4 a)) rfl (by rw [vals_length, be_length]) HA.out (vals_one _) (by unfold maxLen; omega) (by omega) hbase ?_; intro r1 w2 hown2 hgrow2 hb2; have HO1 : Hid (w2.ownsRow g 5 1 r1 4 (vals (rb a l.toNat c.toNat n.toNat 1))) := (own_next hown2); have HP1 := Lib.hid (HY0.out.grown hgrow2 hb2); clear hown2 hgrow2 hb2)
    clear HA hi0 hz0 hz1 hz2 HY0 HOX0 hbase
    rw [rounds_succ]
    go_upto_region 7 with fail
    have qn : w2.cell? ⟨g + 2, 1, none⟩ = some (.int .i64 l) := HP1.out.ncell 1
    have qs : w2.cell? ⟨g + 3, 1, none⟩ = some (.int .i64 1) := HP1.out.scell 1
    have HD := Lib.hid (Below.refl w2.heap.size w2).drew
    go_cut [8, 9] (fun b x wx => x = .int .i64 0 ∧ Hid (IsB wx b (be 1 l.toNat)) ∧ Hid (Below w2.heap.size w2 wx))
    case first =>
      go_region_held3 (fun w' => w'.cell? ⟨g + 2, 1, none⟩ = some (.int .i64 l) ∧ w'.cell? ⟨g + 3, 1, none⟩ = some (.int .i64 1))
        (first | go_keep | exact ⟨(HP1.out.next K2.out).ncell 1, (HP1.out.next K2.out).scell 1⟩)
        (first | (go_simp; go_at_call 48; refine (P1.out _).mono ?_; rintro e x2 ⟨v2, rfl, hv2, hb2⟩; have K2 := Lib.hid (HD.out.trans (hb2.mono HD.out.size)); have HV2 := Lib.hid hv2; clear hb2 hv2))
      all_goals
        go_wp2_with fail
        go_meet
        exact ⟨rfl, HV2, K2⟩
    case rest =>
      obtain ⟨rfl, HIB, HBc⟩ := hcut
      have HY1 := Lib.hid (HP1.out.next HBc.out)
      have HOX1 := Lib.hid (own_bel HO1.out HBc.out)
      generalize wc = y1 at *
      clear HBc HP1 HO1 qn qs HD P1
      obtain ⟨A, m, cc, rfl, hnc, hcm, hm, hA⟩ := HIB.out
      rw [be_length] at hm
      subst hm
      have HA := Lib.hid hA
      clear hA hnc hcm HIB
      obtain ⟨i0, hi0, hz0, hz1, hz2⟩ := info_parts HI.out
      have hbase : g ≤ y1.heap.size := by have := HY1.out.size; omega
      go_wp2_with (at_builtin; refine wpList_append_has _ rfl (.tmp 39) (.tmp 40) _ rfl g 5 i0 (.int .u8 0) 1 Tryd.underlying25 hi0 hz0 hz1 hz2 rfl r1 4 (vals (rb a l.toNat c.toNat n.toNat 1)) rfl HOX1.out _ 1 _ (vals (be 1 l.toNat)) rfl (by rw [vals_length, be_length]) HA.out (vals_one _) (by unfold maxLen; omega) (by omega) hbase ?_; intro r2 w3 hown2 hgrow2 hb2; have HO2 : Hid (w3.ownsRow g 5 1 r2 5 (vals (rb a l.toNat c.toNat n.toNat 2))) := (own_next hown2); have HP2 := Lib.hid (HY1.out.grown hgrow2 hb2); clear hown2 hgrow2 hb2)
      clear HA hi0 hz0 hz1 hz2 HY1 HOX1 hbase
      rw [rounds_succ]
      go_upto_region 7 with fail
      have qn : w3.cell? ⟨g + 2, 2, none⟩ = some (.int .i64 c) := HP2.out.ncell 2
      have qs : w3.cell? ⟨g + 3, 2, none⟩ = some (.int .i64 1) := HP2.out.scell 2
      have HD := Lib.hid (Below.refl w3.heap.size w3).drew
      go_cut [8, 9] (fun b x wx => x = .int .i64 1 ∧ Hid (IsB wx b ([])) ∧ Hid (Below w3.heap.size w3 wx))
      case first =>
        go_region_held3 (fun w' => w'.cell? ⟨g + 2, 2, none⟩ = some (.int .i64 c) ∧ w'.cell? ⟨g + 3, 2, none⟩ = some (.int .i64 1))
          (first | go_keep | exact ⟨(HP2.out.next K2.out).ncell 2, (HP2.out.next K2.out).scell 2⟩)
          (first | (go_simp; go_at_call 48; refine (P2.out _).mono ?_; rintro e x2 ⟨v2, rfl, hv2, hb2⟩; have K2 := Lib.hid (HD.out.trans (hb2.mono HD.out.size)); have HV2 := Lib.hid hv2; clear hb2 hv2))
        all_goals
          go_wp2_with fail
          go_meet
          exact ⟨rfl, HV2, K2⟩
      case rest =>
        obtain ⟨rfl, HIB, HBc⟩ := hcut
        have HY2 := Lib.hid (HP2.out.next HBc.out)
        have HOX2 := Lib.hid (own_bel HO2.out HBc.out)
        generalize wc = y2 at *
        clear HBc HP2 HO2 qn qs HD P2
        go_wp2_with fail
        go_ret2
        exact ⟨_, rfl, IsB.nil_ _, by have h := HY2.out.bel; rw [HGG.out]; exact h⟩
set_option maxHeartbeats 4000000 in
theorem rrulput_no3 (a : Nat) (l c n : Int) (w : World) (ha : (a : Int) ≤ 4294967295) (hw : (Lit.int .i64 n).wf = true) (hl : 0 ≤ l ∧ l ≤ 255) (hc : 0 ≤ c ∧ c ≤ 255) (hn : n < 0 ∨ 65536 ≤ n) :
    Calls Tryd.prog 51 #[.agg #[.int .u32 a, .int .i64 l, .int .i64 c, .int .i64 n]] w fun e w' => ∃ v, e = .returned (.tuple #[v, .int .i64 1]) ∧ IsB w' v [] ∧ Below w.heap.size w w' := by
  have P0 := Lib.hid (fun w => rput_fits a 4 w (by omega) (by omega) (by omega) (by omega))
  have P1 := Lib.hid (fun w => rput_fits l.toNat 1 w (by omega) (by omega) (by omega) (by omega))
  rw [Int.toNat_of_nonneg hl.1] at P1
  have P2 := Lib.hid (fun w => rput_fits c.toNat 1 w (by omega) (by omega) (by omega) (by omega))
  rw [Int.toNat_of_nonneg hc.1] at P2
  have P3 := Lib.hid (fun w => rput_fits_not n 2 w hw (by omega))
  have hconv : IntKind.i64.wrap (a : Int) = (a : Int) := by rw [IntKind.wrap_i64]; omega
  clear ha hw hl hc hn
  have HI := Lib.hid byte_info
  go_enter Tryd.func51, Tryd.ntmps51
  go_wp2_with fail
  obtain ⟨g, hg⟩ : ∃ g, w.heap.size = g := ⟨_, rfl⟩
  have HP0 : Hid (PW w g a l c n (.slice (some ⟨g + 1, 0, none⟩) 0 0) ((((w.alloc (.cells #[.int .u32 (a : Int), .int .i64 l, .int .i64 c, .int .i64 n] 47)).alloc (.cells #[] 5)).alloc (.cells (nums4 a l c n) 93)).alloc (.cells (nums4 4 1 1 2) 93))) := by
    subst hg
    have e1 := heap_alloc2_old ((w.alloc (.cells #[.int .u32 (a : Int), .int .i64 l, .int .i64 c, .int .i64 n] 47)).alloc (.cells #[] 5)) (.cells (nums4 a l c n) 93) (.cells (nums4 4 1 1 2) 93)
    have e2 := heap_alloc2_new ((w.alloc (.cells #[.int .u32 (a : Int), .int .i64 l, .int .i64 c, .int .i64 n] 47)).alloc (.cells #[] 5)) (.cells (nums4 a l c n) 93) (.cells (nums4 4 1 1 2) 93)
    simp only [World.size_alloc, Nat.add_assoc, Nat.reduceAdd] at e1 e2
    refine ⟨e1, e2, ?_, fun q hq => by simp [Value.ownBlock] at hq; omega⟩
    exact ((((Below.refl w.heap.size w).alloc (Nat.le_refl _) _).alloc (by simp only [World.size_alloc]; omega) _).alloc (by simp only [World.size_alloc]; omega) _).alloc (by simp only [World.size_alloc]; omega) _
  have HO0 : Hid (World.ownsRow ((((w.alloc (.cells #[.int .u32 (a : Int), .int .i64 l, .int .i64 c, .int .i64 n] 47)).alloc (.cells #[] 5)).alloc (.cells (nums4 a l c n) 93)).alloc (.cells (nums4 4 1 1 2) 93)) g 5 1 (.slice (some ⟨g + 1, 0, none⟩) 0 0) 0 (vals (rb a l.toNat c.toNat n.toNat 0))) := by
    subst hg
    have h := World.ownsRow_lit (e := 5) (size := 1) (w.alloc (.cells #[.int .u32 (a : Int), .int .i64 l, .int .i64 c, .int .i64 n] 47)) #[] 0 (Nat.le_refl _) (by decide) rfl
    rw [World.size_alloc] at h
    exact own_bel (own_base h (by omega)) (((Below.refl _ _).alloc (Nat.le_refl _) _).alloc (by simp only [World.size_alloc]; omega) _)
  obtain ⟨w1, hw1⟩ : ∃ w1, (((w.alloc (.cells #[.int .u32 (a : Int), .int .i64 l, .int .i64 c, .int .i64 n] 47)).alloc (.cells #[] 5)).alloc (.cells #[.int .i64 (a : Int), .int .i64 l, .int .i64 c, .int .i64 n] 93)).alloc (.cells #[.int .i64 4, .int .i64 1, .int .i64 1, .int .i64 2] 93) = w1 := ⟨_, rfl⟩
  simp only [nums4] at HP0 HO0
  rw [hw1] at HP0 HO0
  rw [hw1]
  simp only [hg, Nat.add_assoc, Nat.reduceAdd]
  have HGG := Lib.hid hg
  clear hw1 hg
  refine wp_loop_rounds 5 ?_
  rw [rounds_succ]
  go_upto_region 7 with fail
  have qn : w1.cell? ⟨g + 2, 0, none⟩ = some (.int .i64 (a : Int)) := HP0.out.ncell 0
  have qs : w1.cell? ⟨g + 3, 0, none⟩ = some (.int .i64 4) := HP0.out.scell 0
  have HD := Lib.hid (Below.refl w1.heap.size w1).drew
  go_cut [8, 9] (fun b x wx => x = .int .i64 0 ∧ Hid (IsB wx b (be 4 a)) ∧ Hid (Below w1.heap.size w1 wx))
  case first =>
    go_region_held3 (fun w' => w'.cell? ⟨g + 2, 0, none⟩ = some (.int .i64 (a : Int)) ∧ w'.cell? ⟨g + 3, 0, none⟩ = some (.int .i64 4))
      (first | go_keep | exact ⟨(HP0.out.next K2.out).ncell 0, (HP0.out.next K2.out).scell 0⟩)
      (first | (go_simp; go_at_call 48; refine (P0.out _).mono ?_; rintro e x2 ⟨v2, rfl, hv2, hb2⟩; have K2 := Lib.hid (HD.out.trans (hb2.mono HD.out.size)); have HV2 := Lib.hid hv2; clear hb2 hv2))
    all_goals
      go_wp2_with fail
      go_meet
      exact ⟨rfl, HV2, K2⟩
  case rest =>
    obtain ⟨rfl, HIB, HBc⟩ := hcut
    have HY0 := Lib.hid (HP0.out.next HBc.out)
    have HOX0 := Lib.hid (own_bel HO0.out HBc.out)
    generalize wc = y0 at *
    clear HBc HP0 HO0 qn qs HD P0
    obtain ⟨A, m, cc, rfl, hnc, hcm, hm, hA⟩ := HIB.out
    rw [be_length] at hm
    subst hm
    have HA := Lib.hid hA
    clear hA hnc hcm HIB
    obtain ⟨i0, hi0, hz0, hz1, hz2⟩ := info_parts HI.out
    have hbase : g ≤ y0.heap.size := by have := HY0.out.size; omega
    go_wp2_with (at_builtin; refine wpList_append_has _ rfl (.tmp 39) (.tmp 40) _ rfl g 5 i0 (.int .u8 0) 1 Tryd.underlying25 hi0 hz0 hz1 hz2 rfl (.slice (some ⟨g + 1, 0, none⟩) 0 0) 0 (vals (rb a l.toNat c.toNat n.toNat 0)) rfl HOX0.out _ 4 _ (vals (be 4 a)) rfl (by rw [vals_length, be_length]) HA.out (vals_one _) (by unfold maxLen; omega) (by omega) hbase ?_; intro r1 w2 hown2 hgrow2 hb2; have HO1 : Hid (w2.ownsRow g 5 1 r1 4 (vals (rb a l.toNat c.toNat n.toNat 1))) := (own_next hown2); have HP1 := Lib.hid (HY0.out.grown hgrow2 hb2); clear hown2 hgrow2 hb2)
    clear HA hi0 hz0 hz1 hz2 HY0 HOX0 hbase
    rw [rounds_succ]
    go_upto_region 7 with fail
    have qn : w2.cell? ⟨g + 2, 1, none⟩ = some (.int .i64 l) := HP1.out.ncell 1
    have qs : w2.cell? ⟨g + 3, 1, none⟩ = some (.int .i64 1) := HP1.out.scell 1
    have HD := Lib.hid (Below.refl w2.heap.size w2).drew
    go_cut [8, 9] (fun b x wx => x = .int .i64 0 ∧ Hid (IsB wx b (be 1 l.toNat)) ∧ Hid (Below w2.heap.size w2 wx))
    case first =>
      go_region_held3 (fun w' => w'.cell? ⟨g + 2, 1, none⟩ = some (.int .i64 l) ∧ w'.cell? ⟨g + 3, 1, none⟩ = some (.int .i64 1))
        (first | go_keep | exact ⟨(HP1.out.next K2.out).ncell 1, (HP1.out.next K2.out).scell 1⟩)
        (first | (go_simp; go_at_call 48; refine (P1.out _).mono ?_; rintro e x2 ⟨v2, rfl, hv2, hb2⟩; have K2 := Lib.hid (HD.out.trans (hb2.mono HD.out.size)); have HV2 := Lib.hid hv2; clear hb2 hv2))
      all_goals
        go_wp2_with fail
        go_meet
        exact ⟨rfl, HV2, K2⟩
    case rest =>
      obtain ⟨rfl, HIB, HBc⟩ := hcut
      have HY1 := Lib.hid (HP1.out.next HBc.out)
      have HOX1 := Lib.hid (own_bel HO1.out HBc.out)
      generalize wc = y1 at *
      clear HBc HP1 HO1 qn qs HD P1
      obtain ⟨A, m, cc, rfl, hnc, hcm, hm, hA⟩ := HIB.out
      rw [be_length] at hm
      subst hm
      have HA := Lib.hid hA
      clear hA hnc hcm HIB
      obtain ⟨i0, hi0, hz0, hz1, hz2⟩ := info_parts HI.out
      have hbase : g ≤ y1.heap.size := by have := HY1.out.size; omega
      go_wp2_with (at_builtin; refine wpList_append_has _ rfl (.tmp 39) (.tmp 40) _ rfl g 5 i0 (.int .u8 0) 1 Tryd.underlying25 hi0 hz0 hz1 hz2 rfl r1 4 (vals (rb a l.toNat c.toNat n.toNat 1)) rfl HOX1.out _ 1 _ (vals (be 1 l.toNat)) rfl (by rw [vals_length, be_length]) HA.out (vals_one _) (by unfold maxLen; omega) (by omega) hbase ?_; intro r2 w3 hown2 hgrow2 hb2; have HO2 : Hid (w3.ownsRow g 5 1 r2 5 (vals (rb a l.toNat c.toNat n.toNat 2))) := (own_next hown2); have HP2 := Lib.hid (HY1.out.grown hgrow2 hb2); clear hown2 hgrow2 hb2)
      clear HA hi0 hz0 hz1 hz2 HY1 HOX1 hbase
      rw [rounds_succ]
      go_upto_region 7 with fail
      have qn : w3.cell? ⟨g + 2, 2, none⟩ = some (.int .i64 c) := HP2.out.ncell 2
      have qs : w3.cell? ⟨g + 3, 2, none⟩ = some (.int .i64 1) := HP2.out.scell 2
      have HD := Lib.hid (Below.refl w3.heap.size w3).drew
      go_cut [8, 9] (fun b x wx => x = .int .i64 0 ∧ Hid (IsB wx b (be 1 c.toNat)) ∧ Hid (Below w3.heap.size w3 wx))
      case first =>
        go_region_held3 (fun w' => w'.cell? ⟨g + 2, 2, none⟩ = some (.int .i64 c) ∧ w'.cell? ⟨g + 3, 2, none⟩ = some (.int .i64 1))
          (first | go_keep | exact ⟨(HP2.out.next K2.out).ncell 2, (HP2.out.next K2.out).scell 2⟩)
          (first | (go_simp; go_at_call 48; refine (P2.out _).mono ?_; rintro e x2 ⟨v2, rfl, hv2, hb2⟩; have K2 := Lib.hid (HD.out.trans (hb2.mono HD.out.size)); have HV2 := Lib.hid hv2; clear hb2 hv2))
        all_goals
          go_wp2_with fail
          go_meet
          exact ⟨rfl, HV2, K2⟩
      case rest =>
        obtain ⟨rfl, HIB, HBc⟩ := hcut
        have HY2 := Lib.hid (HP2.out.next HBc.out)
        have HOX2 := Lib.hid (own_bel HO2.out HBc.out)
        generalize wc = y2 at *
        clear HBc HP2 HO2 qn qs HD P2
        obtain ⟨A, m, cc, rfl, hnc, hcm, hm, hA⟩ := HIB.out
        rw [be_length] at hm
        subst hm
        have HA := Lib.hid hA
        clear hA hnc hcm HIB
        obtain ⟨i0, hi0, hz0, hz1, hz2⟩ := info_parts HI.out
        have hbase : g ≤ y2.heap.size := by have := HY2.out.size; omega
        go_wp2_with (at_builtin; refine wpList_append_has _ rfl (.tmp 39) (.tmp 40) _ rfl g 5 i0 (.int .u8 0) 1 Tryd.underlying25 hi0 hz0 hz1 hz2 rfl r2 5 (vals (rb a l.toNat c.toNat n.toNat 2)) rfl HOX2.out _ 1 _ (vals (be 1 c.toNat)) rfl (by rw [vals_length, be_length]) HA.out (vals_one _) (by unfold maxLen; omega) (by omega) hbase ?_; intro r3 w4 hown2 hgrow2 hb2; have HO3 : Hid (w4.ownsRow g 5 1 r3 6 (vals (rb a l.toNat c.toNat n.toNat 3))) := (own_next hown2); have HP3 := Lib.hid (HY2.out.grown hgrow2 hb2); clear hown2 hgrow2 hb2)
        clear HA hi0 hz0 hz1 hz2 HY2 HOX2 hbase
        rw [rounds_succ]
        go_upto_region 7 with fail
        have qn : w4.cell? ⟨g + 2, 3, none⟩ = some (.int .i64 n) := HP3.out.ncell 3
        have qs : w4.cell? ⟨g + 3, 3, none⟩ = some (.int .i64 2) := HP3.out.scell 3
        have HD := Lib.hid (Below.refl w4.heap.size w4).drew
        go_cut [8, 9] (fun b x wx => x = .int .i64 1 ∧ Hid (IsB wx b ([])) ∧ Hid (Below w4.heap.size w4 wx))
        case first =>
          go_region_held3 (fun w' => w'.cell? ⟨g + 2, 3, none⟩ = some (.int .i64 n) ∧ w'.cell? ⟨g + 3, 3, none⟩ = some (.int .i64 2))
            (first | go_keep | exact ⟨(HP3.out.next K2.out).ncell 3, (HP3.out.next K2.out).scell 3⟩)
            (first | (go_simp; go_at_call 48; refine (P3.out _).mono ?_; rintro e x2 ⟨v2, rfl, hv2, hb2⟩; have K2 := Lib.hid (HD.out.trans (hb2.mono HD.out.size)); have HV2 := Lib.hid hv2; clear hb2 hv2))
          all_goals
            go_wp2_with fail
            go_meet
            exact ⟨rfl, HV2, K2⟩
        case rest =>
          obtain ⟨rfl, HIB, HBc⟩ := hcut
          have HY3 := Lib.hid (HP3.out.next HBc.out)
          have HOX3 := Lib.hid (own_bel HO3.out HBc.out)
          generalize wc = y3 at *
          clear HBc HP3 HO3 qn qs HD P3
          go_wp2_with fail
          go_ret2
          exact ⟨_, rfl, IsB.nil_ _, by have h := HY3.out.bel; rw [HGG.out]; exact h⟩
/-- what the document's Put tells, of any rule -/
theorem rrulput_any (a : Nat) (l c n : Int) (w : World) (ha : (a : Int) ≤ 4294967295) (hl : (Lit.int .i64 l).wf = true) (hc : (Lit.int .i64 c).wf = true) (hn : (Lit.int .i64 n).wf = true) :
    Calls Tryd.prog 51 #[.agg #[.int .u32 a, .int .i64 l, .int .i64 c, .int .i64 n]] w fun e w' => ∃ v, e = .returned (.tuple #[v, .int .i64 (putR a l c n).2]) ∧ IsB w' v (putR a l c n).1 ∧ Below w.heap.size w w' := by
  by_cases h1 : 0 ≤ l ∧ l ≤ 255
  · by_cases h2 : 0 ≤ c ∧ c ≤ 255
    · by_cases h3 : 0 ≤ n ∧ n ≤ 65535
      · rw [putR_yes ⟨h1, h2, h3⟩]
        exact rrulput_ok a l c n w ha h1 h2 h3
      · rw [putR_no fun h => h3 h.2.2]
        exact rrulput_no3 a l c n w ha hn h1 h2 (by omega)
    · rw [putR_no fun h => h2 h.2.1]
      exact rrulput_no2 a l c n w ha hc h1 (by omega)
  · rw [putR_no fun h => h1 h.1]
    exact rrulput_no1 a l c n w ha hl (by omega)
end Go.Proofs.YtohggpaffmcfoaaDoor
