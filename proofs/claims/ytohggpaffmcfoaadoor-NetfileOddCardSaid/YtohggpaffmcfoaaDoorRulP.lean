/- Contract of package rule: Put. -/
import Derived.Test.YtohggpaffmcfoaaDoorRul
import Derived.Test.YtohggpaffmcfoaaDoorRulM
import Derived.Deep.RegionHeld3
import Derived.Deep.DeepCutAuto
import Derived.Laws.EntriesVeiled
namespace Go.Proofs.YtohggpaffmcfoaaDoor
open Go.RowKit
set_option linter.unusedVariables false
set_option maxRecDepth 100000
set_option linter.unusedSimpArgs false

/-- a rule that stands in a block of its own -/
def RCells (g : Nat) (a l c n : Int) (w : World) : Prop := w.cell? ⟨g, 0, none⟩ = some (.int .u32 a) ∧ w.cell? ⟨g, 1, none⟩ = some (.int .i64 l) ∧ w.cell? ⟨g, 2, none⟩ = some (.int .i64 c) ∧ w.cell? ⟨g, 3, none⟩ = some (.int .i64 n)
theorem own_next {w : World} {S n : Nat} {e : TypeId} {v : Value} {X Y : List UInt8} (h : w.ownsRow S e 1 v n (vals X ++ vals Y)) : w.ownsRow S e 1 v n (vals (X ++ Y)) := by
  rw [vals_append]
  exact h
theorem next_below {w1 wx w2 : World} {S n : Nat} {e : TypeId} {v : Value} {xs : List Value} (hs : w1.heap.size = S) (hb : Below w1.heap.size w1 wx) (ho : wx.ownsRow S e 1 v n xs) (hg : wx.grownBy w2 v.ownBlock) : Below w1.heap.size w1 w2 :=
  hb.grown hg hb.size fun q hq => by
    rw [hs]
    exact (ho.lt q hq).1
theorem next_base {w1 wx : World} {S : Nat} (hs : w1.heap.size = S) (hb : Below w1.heap.size w1 wx) : S ≤ wx.heap.size := by
  have := hb.size
  rw [hs] at this
  exact this
theorem put_fits (n : Nat) (s : Nat) (w : World) (h1 : 1 ≤ s) (h2 : s ≤ 4) (hn : n < 256 ^ s) : Calls Tryd.prog 43 #[.int .i64 n, .int .i64 s] w fun e w' =>
    ∃ v, e = .returned (.tuple #[v, .int .i64 0]) ∧ IsB w' v (be s n) ∧ Below w.heap.size w w' := by
  have h := put_any n s w
  rw [putS, if_pos ⟨⟨by omega, by omega⟩, by omega, by simpa using hn⟩] at h
  simpa using h
theorem put_fits_not (n : Int) (s : Nat) (w : World) (hn : n < 0 ∨ (256 ^ s : Nat) ≤ n) : Calls Tryd.prog 43 #[.int .i64 n, .int .i64 s] w fun e w' =>
    ∃ v, e = .returned (.tuple #[v, .int .i64 1]) ∧ IsB w' v [] ∧ Below w.heap.size w w' := by
  have h := put_any n s w
  rw [putS, if_neg] at h
  · exact h
  · rintro ⟨_, h0, h3⟩
    rw [Int.toNat_natCast] at h3
    rcases hn with hn | hn <;> omega
set_option maxHeartbeats 4000000 in
theorem rulput_ok (a : Nat) (l c n : Int) (w : World) (ha : (a : Int) ≤ 4294967295) (hl : 0 ≤ l ∧ l ≤ 255) (hc : 0 ≤ c ∧ c ≤ 255) (hn : 0 ≤ n ∧ n ≤ 65535) :
    Calls Tryd.prog 22 #[.agg #[.int .u32 a, .int .i64 l, .int .i64 c, .int .i64 n]] w fun e w' => ∃ v, e = .returned (.tuple #[v, .int .i64 0]) ∧ w'.ownsRow w.heap.size 5 1 v 8 (vals (rb a l.toNat c.toNat n.toNat 4)) ∧ Below w.heap.size w w' := by
  have C0 := Lib.hid (fun w => get1_any a l c n w ha)
  have C1 := Lib.hid (fun w => get3_any a l c n w)
  have C2 := Lib.hid (fun w => get5_any a l c n w)
  have C3 := Lib.hid (fun w => get7_any a l c n w)
  have P0 := Lib.hid (fun w => put_fits a 4 w (by omega) (by omega) (by omega))
  have P1 := Lib.hid (fun w => put_fits l.toNat 1 w (by omega) (by omega) (by omega))
  rw [Int.toNat_of_nonneg hl.1] at P1
  have P2 := Lib.hid (fun w => put_fits c.toNat 1 w (by omega) (by omega) (by omega))
  rw [Int.toNat_of_nonneg hc.1] at P2
  have P3 := Lib.hid (fun w => put_fits n.toNat 2 w (by omega) (by omega) (by omega))
  rw [Int.toNat_of_nonneg hn.1] at P3
  clear ha hl hc hn
  have HI := Lib.hid byte_info
  go_enter Tryd.func22, Tryd.ntmps22
  go_wp2_with fail
  refine (fields_any _).mono ?_
  rintro e1 w1 ⟨rfl, rfl⟩
  obtain ⟨g, hg⟩ : ∃ g, w.heap.size = g := ⟨_, rfl⟩
  obtain ⟨w1, hw1⟩ : ∃ w1, (w.alloc (.cells #[.int .u32 (a : Int), .int .i64 l, .int .i64 c, .int .i64 n] 47)).alloc (.cells fieldCells 73) = w1 := ⟨_, rfl⟩
  rw [hw1]
  simp only [World.size_alloc, hg]
  have HQ : Hid (∀ wx, Below w1.heap.size w1 wx → (∀ j, wx.cell? ⟨g + 1, j, none⟩ = fieldCells[j]?) ∧ RCells g a l c n wx) := by
    intro wx hx
    subst hw1 hg
    refine ⟨fun j => by have := boxed hx j; simpa only [World.size_alloc] using this, ?_⟩
    exact ⟨boxed (unbox hx) 0, boxed (unbox hx) 1, boxed (unbox hx) 2, boxed (unbox hx) 3⟩
  have HS : Hid (Below w.heap.size w w1) := by
    subst hw1
    exact ((Below.refl w.heap.size w).alloc (Nat.le_refl _) _).alloc (by simp only [World.size_alloc]; omega) _
  have HZ : Hid (w.heap.size ≤ w1.heap.size) := HS.out.size
  have HB0 := Lib.hid (Below.refl w1.heap.size w1)
  obtain ⟨S, hS⟩ : ∃ S, w1.heap.size = S := ⟨_, rfl⟩
  have HSS := Lib.hid hS
  clear hw1 hg hS
  go_wp2_with fail
  refine wp_loop_rounds 5 ?_
  have q0 := (HQ.out w1 HB0.out).1 0
  have q1 := (HQ.out w1 HB0.out).1 1
  have q2 := (HQ.out w1 HB0.out).1 2
  simp [fieldCells] at q0 q1 q2
  rw [rounds_succ]
  go_upto_region 5 with fail
  clear q0 q1 q2
  obtain ⟨V0, hV⟩ : ∃ V, w1.alloc (.cells #[.int .i64 4, .func (.func 65) #[] #[], .func (.func 66) #[] #[]] 73) = V := ⟨_, rfl⟩
  obtain ⟨G0, hG⟩ : ∃ G, w1.heap.size = G := ⟨_, rfl⟩
  rw [hV, hG]
  have HBV0 : Hid (Below w1.heap.size w1 V0) := by subst hV; exact HB0.out.alloc HB0.out.size _
  have HF0 : Hid (∀ wx, Below V0.heap.size V0 wx → (wx.cell? ⟨G0, 0, none⟩ = some (.int .i64 4) ∧ wx.cell? ⟨G0, 1, none⟩ = some (.func (.func 65) #[] #[])) ∧ RCells g a l c n wx) := by
    intro wx hx
    refine ⟨?_, (HQ.out wx (HBV0.out.trans (hx.mono HBV0.out.size))).2⟩
    subst hV hG
    exact ⟨boxed hx 0, boxed hx 1⟩
  have hf0 := (HF0.out V0 (Below.refl _ _)).1.1
  have hf1 := (HF0.out V0 (Below.refl _ _)).1.2
  obtain ⟨hr0, hr1, hr2, hr3⟩ := (HF0.out V0 (Below.refl _ _)).2
  have HD := Lib.hid (Below.refl V0.heap.size V0).drew
  clear hV hG
  go_cut [7, 8] (fun b x wx => x = .int .i64 0 ∧ Hid (IsB wx b (be 4 a)) ∧ Hid (Below V0.heap.size V0 wx))
  case first =>
    go_region_held3 (fun w' => w'.cell? ⟨G0, 0, none⟩ = some (.int .i64 4) ∧ w'.cell? ⟨G0, 1, none⟩ = some (.func (.func 65) #[] #[]) ∧ w'.cell? ⟨g, 0, none⟩ = some (.int .u32 (a : Int)) ∧ w'.cell? ⟨g, 1, none⟩ = some (.int .i64 l) ∧ w'.cell? ⟨g, 2, none⟩ = some (.int .i64 c) ∧ w'.cell? ⟨g, 3, none⟩ = some (.int .i64 n))
      (first | go_keep | exact ⟨(HF0.out _ K2.out).1.1, (HF0.out _ K2.out).1.2, (HF0.out _ K2.out).2.1, (HF0.out _ K2.out).2.2.1, (HF0.out _ K2.out).2.2.2.1, (HF0.out _ K2.out).2.2.2.2⟩ | exact ⟨(HF0.out _ K1.out).1.1, (HF0.out _ K1.out).1.2, (HF0.out _ K1.out).2.1, (HF0.out _ K1.out).2.2.1, (HF0.out _ K1.out).2.2.2.1, (HF0.out _ K1.out).2.2.2.2⟩)
      (first
        | (go_simp; go_at_call 65; refine (C0.out _).mono ?_; rintro e x1 ⟨rfl, hb1⟩; have K1 := Lib.hid (HD.out.trans (hb1.mono HD.out.size)); clear hb1)
        | (go_simp; go_at_call 43; refine (P0.out _).mono ?_; rintro e x2 ⟨v2, rfl, hv2, hb2⟩; have K2 := Lib.hid (K1.out.trans (hb2.mono K1.out.size)); have HV2 := Lib.hid hv2; clear hb2 hv2))
    all_goals
      go_wp2_with fail
      go_meet
      exact ⟨rfl, HV2, K2⟩
  case rest =>
    obtain ⟨rfl, HIB, HBc⟩ := hcut
    have HBX0 := Lib.hid (HBV0.out.trans (HBc.out.mono HBV0.out.size))
    generalize wc = y0 at *
    clear HBc HBV0 HF0 hf0 hf1 hr0 hr1 hr2 hr3 HD HB0 C0 P0
    obtain ⟨A, m, cc, rfl, hnc, hcm, hm, hA⟩ := HIB.out
    rw [be_length] at hm
    subst hm
    have HA := Lib.hid hA
    clear hA hnc hcm HIB
    obtain ⟨i0, hi0, hz0, hz1, hz2⟩ := info_parts HI.out
    go_wp2_with (at_builtin; refine wpList_append_has _ rfl (.tmp 28) (.tmp 29) _ rfl S 5 i0 (.int .u8 0) 1 Tryd.underlying25 hi0 hz0 hz1 hz2 rfl (.slice none 0 0) 0 [] rfl (World.ownsRow_nil _ _ _ _) _ 4 _ (vals (be 4 a)) rfl (by rw [vals_length, be_length]) HA.out (vals_one _) (by unfold maxLen; omega) (by omega) (next_base HSS.out HBX0.out) ?_; intro r1 w2 hown2 hgrow2 _; have HO1 : Hid (w2.ownsRow S 5 1 r1 4 (vals (rb a l.toNat c.toNat n.toNat 1))) := (show _ from hown2); have HB1 := Lib.hid (HBX0.out.grown hgrow2 HBX0.out.size (fun q hq => by simp [Value.ownBlock] at hq)); clear hown2 hgrow2)
    clear HA hi0 hz0 hz1 hz2 HBX0
    have q0 := (HQ.out w2 HB1.out).1 3
    have q1 := (HQ.out w2 HB1.out).1 4
    have q2 := (HQ.out w2 HB1.out).1 5
    simp [fieldCells] at q0 q1 q2
    rw [rounds_succ]
    go_upto_region 5 with fail
    clear q0 q1 q2
    obtain ⟨V1, hV⟩ : ∃ V, w2.alloc (.cells #[.int .i64 1, .func (.func 67) #[] #[], .func (.func 68) #[] #[]] 73) = V := ⟨_, rfl⟩
    obtain ⟨G1, hG⟩ : ∃ G, w2.heap.size = G := ⟨_, rfl⟩
    rw [hV, hG]
    have HBV1 : Hid (Below w1.heap.size w1 V1) := by subst hV; exact HB1.out.alloc HB1.out.size _
    have HF1 : Hid (∀ wx, Below V1.heap.size V1 wx → (wx.cell? ⟨G1, 0, none⟩ = some (.int .i64 1) ∧ wx.cell? ⟨G1, 1, none⟩ = some (.func (.func 67) #[] #[])) ∧ RCells g a l c n wx) := by
      intro wx hx
      refine ⟨?_, (HQ.out wx (HBV1.out.trans (hx.mono HBV1.out.size))).2⟩
      subst hV hG
      exact ⟨boxed hx 0, boxed hx 1⟩
    have HOV1 : Hid (V1.ownsRow S 5 1 r1 4 (vals (rb a l.toNat c.toNat n.toNat 1))) := by
      subst hV
      exact own_bel HO1.out ((Below.refl _ _).alloc (Nat.le_refl _) _)
    have hf0 := (HF1.out V1 (Below.refl _ _)).1.1
    have hf1 := (HF1.out V1 (Below.refl _ _)).1.2
    obtain ⟨hr0, hr1, hr2, hr3⟩ := (HF1.out V1 (Below.refl _ _)).2
    have HD := Lib.hid (Below.refl V1.heap.size V1).drew
    clear hV hG
    go_cut [7, 8] (fun b x wx => x = .int .i64 0 ∧ Hid (IsB wx b (be 1 l.toNat)) ∧ Hid (Below V1.heap.size V1 wx))
    case first =>
      go_region_held3 (fun w' => w'.cell? ⟨G1, 0, none⟩ = some (.int .i64 1) ∧ w'.cell? ⟨G1, 1, none⟩ = some (.func (.func 67) #[] #[]) ∧ w'.cell? ⟨g, 0, none⟩ = some (.int .u32 (a : Int)) ∧ w'.cell? ⟨g, 1, none⟩ = some (.int .i64 l) ∧ w'.cell? ⟨g, 2, none⟩ = some (.int .i64 c) ∧ w'.cell? ⟨g, 3, none⟩ = some (.int .i64 n))
        (first | go_keep | exact ⟨(HF1.out _ K2.out).1.1, (HF1.out _ K2.out).1.2, (HF1.out _ K2.out).2.1, (HF1.out _ K2.out).2.2.1, (HF1.out _ K2.out).2.2.2.1, (HF1.out _ K2.out).2.2.2.2⟩ | exact ⟨(HF1.out _ K1.out).1.1, (HF1.out _ K1.out).1.2, (HF1.out _ K1.out).2.1, (HF1.out _ K1.out).2.2.1, (HF1.out _ K1.out).2.2.2.1, (HF1.out _ K1.out).2.2.2.2⟩)
        (first
          | (go_simp; go_at_call 67; refine (C1.out _).mono ?_; rintro e x1 ⟨rfl, hb1⟩; have K1 := Lib.hid (HD.out.trans (hb1.mono HD.out.size)); clear hb1)
          | (go_simp; go_at_call 43; refine (P1.out _).mono ?_; rintro e x2 ⟨v2, rfl, hv2, hb2⟩; have K2 := Lib.hid (K1.out.trans (hb2.mono K1.out.size)); have HV2 := Lib.hid hv2; clear hb2 hv2))
      all_goals
        go_wp2_with fail
        go_meet
        exact ⟨rfl, HV2, K2⟩
    case rest =>
      obtain ⟨rfl, HIB, HBc⟩ := hcut
      have HBX1 := Lib.hid (HBV1.out.trans (HBc.out.mono HBV1.out.size))
      have HOX1 := Lib.hid (own_bel HOV1.out HBc.out)
      generalize wc = y1 at *
      clear HBc HBV1 HF1 hf0 hf1 hr0 hr1 hr2 hr3 HD HOV1 HB1 HO1 C1 P1
      obtain ⟨A, m, cc, rfl, hnc, hcm, hm, hA⟩ := HIB.out
      rw [be_length] at hm
      subst hm
      have HA := Lib.hid hA
      clear hA hnc hcm HIB
      obtain ⟨i0, hi0, hz0, hz1, hz2⟩ := info_parts HI.out
      go_wp2_with (at_builtin; refine wpList_append_has _ rfl (.tmp 28) (.tmp 29) _ rfl S 5 i0 (.int .u8 0) 1 Tryd.underlying25 hi0 hz0 hz1 hz2 rfl r1 4 (vals (rb a l.toNat c.toNat n.toNat 1)) rfl HOX1.out _ 1 _ (vals (be 1 l.toNat)) rfl (by rw [vals_length, be_length]) HA.out (vals_one _) (by unfold maxLen; omega) (by omega) (next_base HSS.out HBX1.out) ?_; intro r2 w3 hown2 hgrow2 _; have HO2 : Hid (w3.ownsRow S 5 1 r2 5 (vals (rb a l.toNat c.toNat n.toNat 2))) := (own_next hown2); have HB2 := Lib.hid (next_below HSS.out HBX1.out HOX1.out hgrow2); clear hown2 hgrow2)
      clear HA hi0 hz0 hz1 hz2 HBX1 HOX1
      have q0 := (HQ.out w3 HB2.out).1 6
      have q1 := (HQ.out w3 HB2.out).1 7
      have q2 := (HQ.out w3 HB2.out).1 8
      simp [fieldCells] at q0 q1 q2
      rw [rounds_succ]
      go_upto_region 5 with fail
      clear q0 q1 q2
      obtain ⟨V2, hV⟩ : ∃ V, w3.alloc (.cells #[.int .i64 1, .func (.func 69) #[] #[], .func (.func 70) #[] #[]] 73) = V := ⟨_, rfl⟩
      obtain ⟨G2, hG⟩ : ∃ G, w3.heap.size = G := ⟨_, rfl⟩
      rw [hV, hG]
      have HBV2 : Hid (Below w1.heap.size w1 V2) := by subst hV; exact HB2.out.alloc HB2.out.size _
      have HF2 : Hid (∀ wx, Below V2.heap.size V2 wx → (wx.cell? ⟨G2, 0, none⟩ = some (.int .i64 1) ∧ wx.cell? ⟨G2, 1, none⟩ = some (.func (.func 69) #[] #[])) ∧ RCells g a l c n wx) := by
        intro wx hx
        refine ⟨?_, (HQ.out wx (HBV2.out.trans (hx.mono HBV2.out.size))).2⟩
        subst hV hG
        exact ⟨boxed hx 0, boxed hx 1⟩
      have HOV2 : Hid (V2.ownsRow S 5 1 r2 5 (vals (rb a l.toNat c.toNat n.toNat 2))) := by
        subst hV
        exact own_bel HO2.out ((Below.refl _ _).alloc (Nat.le_refl _) _)
      have hf0 := (HF2.out V2 (Below.refl _ _)).1.1
      have hf1 := (HF2.out V2 (Below.refl _ _)).1.2
      obtain ⟨hr0, hr1, hr2, hr3⟩ := (HF2.out V2 (Below.refl _ _)).2
      have HD := Lib.hid (Below.refl V2.heap.size V2).drew
      clear hV hG
      go_cut [7, 8] (fun b x wx => x = .int .i64 0 ∧ Hid (IsB wx b (be 1 c.toNat)) ∧ Hid (Below V2.heap.size V2 wx))
      case first =>
        go_region_held3 (fun w' => w'.cell? ⟨G2, 0, none⟩ = some (.int .i64 1) ∧ w'.cell? ⟨G2, 1, none⟩ = some (.func (.func 69) #[] #[]) ∧ w'.cell? ⟨g, 0, none⟩ = some (.int .u32 (a : Int)) ∧ w'.cell? ⟨g, 1, none⟩ = some (.int .i64 l) ∧ w'.cell? ⟨g, 2, none⟩ = some (.int .i64 c) ∧ w'.cell? ⟨g, 3, none⟩ = some (.int .i64 n))
          (first | go_keep | exact ⟨(HF2.out _ K2.out).1.1, (HF2.out _ K2.out).1.2, (HF2.out _ K2.out).2.1, (HF2.out _ K2.out).2.2.1, (HF2.out _ K2.out).2.2.2.1, (HF2.out _ K2.out).2.2.2.2⟩ | exact ⟨(HF2.out _ K1.out).1.1, (HF2.out _ K1.out).1.2, (HF2.out _ K1.out).2.1, (HF2.out _ K1.out).2.2.1, (HF2.out _ K1.out).2.2.2.1, (HF2.out _ K1.out).2.2.2.2⟩)
          (first
            | (go_simp; go_at_call 69; refine (C2.out _).mono ?_; rintro e x1 ⟨rfl, hb1⟩; have K1 := Lib.hid (HD.out.trans (hb1.mono HD.out.size)); clear hb1)
            | (go_simp; go_at_call 43; refine (P2.out _).mono ?_; rintro e x2 ⟨v2, rfl, hv2, hb2⟩; have K2 := Lib.hid (K1.out.trans (hb2.mono K1.out.size)); have HV2 := Lib.hid hv2; clear hb2 hv2))
        all_goals
          go_wp2_with fail
          go_meet
          exact ⟨rfl, HV2, K2⟩
      case rest =>
        obtain ⟨rfl, HIB, HBc⟩ := hcut
        have HBX2 := Lib.hid (HBV2.out.trans (HBc.out.mono HBV2.out.size))
        have HOX2 := Lib.hid (own_bel HOV2.out HBc.out)
        generalize wc = y2 at *
        clear HBc HBV2 HF2 hf0 hf1 hr0 hr1 hr2 hr3 HD HOV2 HB2 HO2 C2 P2
        obtain ⟨A, m, cc, rfl, hnc, hcm, hm, hA⟩ := HIB.out
        rw [be_length] at hm
        subst hm
        have HA := Lib.hid hA
        clear hA hnc hcm HIB
        obtain ⟨i0, hi0, hz0, hz1, hz2⟩ := info_parts HI.out
        go_wp2_with (at_builtin; refine wpList_append_has _ rfl (.tmp 28) (.tmp 29) _ rfl S 5 i0 (.int .u8 0) 1 Tryd.underlying25 hi0 hz0 hz1 hz2 rfl r2 5 (vals (rb a l.toNat c.toNat n.toNat 2)) rfl HOX2.out _ 1 _ (vals (be 1 c.toNat)) rfl (by rw [vals_length, be_length]) HA.out (vals_one _) (by unfold maxLen; omega) (by omega) (next_base HSS.out HBX2.out) ?_; intro r3 w4 hown2 hgrow2 _; have HO3 : Hid (w4.ownsRow S 5 1 r3 6 (vals (rb a l.toNat c.toNat n.toNat 3))) := (own_next hown2); have HB3 := Lib.hid (next_below HSS.out HBX2.out HOX2.out hgrow2); clear hown2 hgrow2)
        clear HA hi0 hz0 hz1 hz2 HBX2 HOX2
        have q0 := (HQ.out w4 HB3.out).1 9
        have q1 := (HQ.out w4 HB3.out).1 10
        have q2 := (HQ.out w4 HB3.out).1 11
        simp [fieldCells] at q0 q1 q2
        rw [rounds_succ]
        go_upto_region 5 with fail
        clear q0 q1 q2
        obtain ⟨V3, hV⟩ : ∃ V, w4.alloc (.cells #[.int .i64 2, .func (.func 71) #[] #[], .func (.func 72) #[] #[]] 73) = V := ⟨_, rfl⟩
        obtain ⟨G3, hG⟩ : ∃ G, w4.heap.size = G := ⟨_, rfl⟩
        rw [hV, hG]
        have HBV3 : Hid (Below w1.heap.size w1 V3) := by subst hV; exact HB3.out.alloc HB3.out.size _
        have HF3 : Hid (∀ wx, Below V3.heap.size V3 wx → (wx.cell? ⟨G3, 0, none⟩ = some (.int .i64 2) ∧ wx.cell? ⟨G3, 1, none⟩ = some (.func (.func 71) #[] #[])) ∧ RCells g a l c n wx) := by
          intro wx hx
          refine ⟨?_, (HQ.out wx (HBV3.out.trans (hx.mono HBV3.out.size))).2⟩
          subst hV hG
          exact ⟨boxed hx 0, boxed hx 1⟩
        have HOV3 : Hid (V3.ownsRow S 5 1 r3 6 (vals (rb a l.toNat c.toNat n.toNat 3))) := by
          subst hV
          exact own_bel HO3.out ((Below.refl _ _).alloc (Nat.le_refl _) _)
        have hf0 := (HF3.out V3 (Below.refl _ _)).1.1
        have hf1 := (HF3.out V3 (Below.refl _ _)).1.2
        obtain ⟨hr0, hr1, hr2, hr3⟩ := (HF3.out V3 (Below.refl _ _)).2
        have HD := Lib.hid (Below.refl V3.heap.size V3).drew
        clear hV hG
        go_cut [7, 8] (fun b x wx => x = .int .i64 0 ∧ Hid (IsB wx b (be 2 n.toNat)) ∧ Hid (Below V3.heap.size V3 wx))
        case first =>
          go_region_held3 (fun w' => w'.cell? ⟨G3, 0, none⟩ = some (.int .i64 2) ∧ w'.cell? ⟨G3, 1, none⟩ = some (.func (.func 71) #[] #[]) ∧ w'.cell? ⟨g, 0, none⟩ = some (.int .u32 (a : Int)) ∧ w'.cell? ⟨g, 1, none⟩ = some (.int .i64 l) ∧ w'.cell? ⟨g, 2, none⟩ = some (.int .i64 c) ∧ w'.cell? ⟨g, 3, none⟩ = some (.int .i64 n))
            (first | go_keep | exact ⟨(HF3.out _ K2.out).1.1, (HF3.out _ K2.out).1.2, (HF3.out _ K2.out).2.1, (HF3.out _ K2.out).2.2.1, (HF3.out _ K2.out).2.2.2.1, (HF3.out _ K2.out).2.2.2.2⟩ | exact ⟨(HF3.out _ K1.out).1.1, (HF3.out _ K1.out).1.2, (HF3.out _ K1.out).2.1, (HF3.out _ K1.out).2.2.1, (HF3.out _ K1.out).2.2.2.1, (HF3.out _ K1.out).2.2.2.2⟩)
            (first
              | (go_simp; go_at_call 71; refine (C3.out _).mono ?_; rintro e x1 ⟨rfl, hb1⟩; have K1 := Lib.hid (HD.out.trans (hb1.mono HD.out.size)); clear hb1)
              | (go_simp; go_at_call 43; refine (P3.out _).mono ?_; rintro e x2 ⟨v2, rfl, hv2, hb2⟩; have K2 := Lib.hid (K1.out.trans (hb2.mono K1.out.size)); have HV2 := Lib.hid hv2; clear hb2 hv2))
          all_goals
            go_wp2_with fail
            go_meet
            exact ⟨rfl, HV2, K2⟩
        case rest =>
          obtain ⟨rfl, HIB, HBc⟩ := hcut
          have HBX3 := Lib.hid (HBV3.out.trans (HBc.out.mono HBV3.out.size))
          have HOX3 := Lib.hid (own_bel HOV3.out HBc.out)
          generalize wc = y3 at *
          clear HBc HBV3 HF3 hf0 hf1 hr0 hr1 hr2 hr3 HD HOV3 HB3 HO3 C3 P3
          obtain ⟨A, m, cc, rfl, hnc, hcm, hm, hA⟩ := HIB.out
          rw [be_length] at hm
          subst hm
          have HA := Lib.hid hA
          clear hA hnc hcm HIB
          obtain ⟨i0, hi0, hz0, hz1, hz2⟩ := info_parts HI.out
          go_wp2_with (at_builtin; refine wpList_append_has _ rfl (.tmp 28) (.tmp 29) _ rfl S 5 i0 (.int .u8 0) 1 Tryd.underlying25 hi0 hz0 hz1 hz2 rfl r3 6 (vals (rb a l.toNat c.toNat n.toNat 3)) rfl HOX3.out _ 2 _ (vals (be 2 n.toNat)) rfl (by rw [vals_length, be_length]) HA.out (vals_one _) (by unfold maxLen; omega) (by omega) (next_base HSS.out HBX3.out) ?_; intro r4 w5 hown2 hgrow2 _; have HO4 : Hid (w5.ownsRow S 5 1 r4 8 (vals (rb a l.toNat c.toNat n.toNat 4))) := (own_next hown2); have HB4 := Lib.hid (next_below HSS.out HBX3.out HOX3.out hgrow2); clear hown2 hgrow2)
          clear HA hi0 hz0 hz1 hz2 HBX3 HOX3
          rw [rounds_succ]
          go_wp2_with fail
          go_ret2
          exact ⟨_, rfl, own_base HO4.out (by rw [← HSS.out]; exact HZ.out), HS.out.trans (HB4.out.mono HZ.out)⟩
set_option maxHeartbeats 4000000 in
theorem rulput_no1 (a : Nat) (l c n : Int) (w : World) (ha : (a : Int) ≤ 4294967295) (hl : l < 0 ∨ 256 ≤ l) :
    Calls Tryd.prog 22 #[.agg #[.int .u32 a, .int .i64 l, .int .i64 c, .int .i64 n]] w fun e w' => ∃ v, e = .returned (.tuple #[v, .int .i64 1]) ∧ IsB w' v [] ∧ Below w.heap.size w w' := by
  have C0 := Lib.hid (fun w => get1_any a l c n w ha)
  have C1 := Lib.hid (fun w => get3_any a l c n w)
  have C2 := Lib.hid (fun w => get5_any a l c n w)
  have C3 := Lib.hid (fun w => get7_any a l c n w)
  have P0 := Lib.hid (fun w => put_fits a 4 w (by omega) (by omega) (by omega))
  have P1 := Lib.hid (fun w => put_fits_not l 1 w (by omega))
  clear ha hl
  have HI := Lib.hid byte_info
  go_enter Tryd.func22, Tryd.ntmps22
  go_wp2_with fail
  refine (fields_any _).mono ?_
  rintro e1 w1 ⟨rfl, rfl⟩
  obtain ⟨g, hg⟩ : ∃ g, w.heap.size = g := ⟨_, rfl⟩
  obtain ⟨w1, hw1⟩ : ∃ w1, (w.alloc (.cells #[.int .u32 (a : Int), .int .i64 l, .int .i64 c, .int .i64 n] 47)).alloc (.cells fieldCells 73) = w1 := ⟨_, rfl⟩
  rw [hw1]
  simp only [World.size_alloc, hg]
  have HQ : Hid (∀ wx, Below w1.heap.size w1 wx → (∀ j, wx.cell? ⟨g + 1, j, none⟩ = fieldCells[j]?) ∧ RCells g a l c n wx) := by
    intro wx hx
    subst hw1 hg
    refine ⟨fun j => by have := boxed hx j; simpa only [World.size_alloc] using this, ?_⟩
    exact ⟨boxed (unbox hx) 0, boxed (unbox hx) 1, boxed (unbox hx) 2, boxed (unbox hx) 3⟩
  have HS : Hid (Below w.heap.size w w1) := by
    subst hw1
    exact ((Below.refl w.heap.size w).alloc (Nat.le_refl _) _).alloc (by simp only [World.size_alloc]; omega) _
  have HZ : Hid (w.heap.size ≤ w1.heap.size) := HS.out.size
  have HB0 := Lib.hid (Below.refl w1.heap.size w1)
  obtain ⟨S, hS⟩ : ∃ S, w1.heap.size = S := ⟨_, rfl⟩
  have HSS := Lib.hid hS
  clear hw1 hg hS
  go_wp2_with fail
  refine wp_loop_rounds 5 ?_
  have q0 := (HQ.out w1 HB0.out).1 0
  have q1 := (HQ.out w1 HB0.out).1 1
  have q2 := (HQ.out w1 HB0.out).1 2
  simp [fieldCells] at q0 q1 q2
  rw [rounds_succ]
  go_upto_region 5 with fail
  clear q0 q1 q2
  obtain ⟨V0, hV⟩ : ∃ V, w1.alloc (.cells #[.int .i64 4, .func (.func 65) #[] #[], .func (.func 66) #[] #[]] 73) = V := ⟨_, rfl⟩
  obtain ⟨G0, hG⟩ : ∃ G, w1.heap.size = G := ⟨_, rfl⟩
  rw [hV, hG]
  have HBV0 : Hid (Below w1.heap.size w1 V0) := by subst hV; exact HB0.out.alloc HB0.out.size _
  have HF0 : Hid (∀ wx, Below V0.heap.size V0 wx → (wx.cell? ⟨G0, 0, none⟩ = some (.int .i64 4) ∧ wx.cell? ⟨G0, 1, none⟩ = some (.func (.func 65) #[] #[])) ∧ RCells g a l c n wx) := by
    intro wx hx
    refine ⟨?_, (HQ.out wx (HBV0.out.trans (hx.mono HBV0.out.size))).2⟩
    subst hV hG
    exact ⟨boxed hx 0, boxed hx 1⟩
  have hf0 := (HF0.out V0 (Below.refl _ _)).1.1
  have hf1 := (HF0.out V0 (Below.refl _ _)).1.2
  obtain ⟨hr0, hr1, hr2, hr3⟩ := (HF0.out V0 (Below.refl _ _)).2
  have HD := Lib.hid (Below.refl V0.heap.size V0).drew
  clear hV hG
  go_cut [7, 8] (fun b x wx => x = .int .i64 0 ∧ Hid (IsB wx b (be 4 a)) ∧ Hid (Below V0.heap.size V0 wx))
  case first =>
    go_region_held3 (fun w' => w'.cell? ⟨G0, 0, none⟩ = some (.int .i64 4) ∧ w'.cell? ⟨G0, 1, none⟩ = some (.func (.func 65) #[] #[]) ∧ w'.cell? ⟨g, 0, none⟩ = some (.int .u32 (a : Int)) ∧ w'.cell? ⟨g, 1, none⟩ = some (.int .i64 l) ∧ w'.cell? ⟨g, 2, none⟩ = some (.int .i64 c) ∧ w'.cell? ⟨g, 3, none⟩ = some (.int .i64 n))
      (first | go_keep | exact ⟨(HF0.out _ K2.out).1.1, (HF0.out _ K2.out).1.2, (HF0.out _ K2.out).2.1, (HF0.out _ K2.out).2.2.1, (HF0.out _ K2.out).2.2.2.1, (HF0.out _ K2.out).2.2.2.2⟩ | exact ⟨(HF0.out _ K1.out).1.1, (HF0.out _ K1.out).1.2, (HF0.out _ K1.out).2.1, (HF0.out _ K1.out).2.2.1, (HF0.out _ K1.out).2.2.2.1, (HF0.out _ K1.out).2.2.2.2⟩)
      (first
        | (go_simp; go_at_call 65; refine (C0.out _).mono ?_; rintro e x1 ⟨rfl, hb1⟩; have K1 := Lib.hid (HD.out.trans (hb1.mono HD.out.size)); clear hb1)
        | (go_simp; go_at_call 43; refine (P0.out _).mono ?_; rintro e x2 ⟨v2, rfl, hv2, hb2⟩; have K2 := Lib.hid (K1.out.trans (hb2.mono K1.out.size)); have HV2 := Lib.hid hv2; clear hb2 hv2))
    all_goals
      go_wp2_with fail
      go_meet
      exact ⟨rfl, HV2, K2⟩
  case rest =>
    obtain ⟨rfl, HIB, HBc⟩ := hcut
    have HBX0 := Lib.hid (HBV0.out.trans (HBc.out.mono HBV0.out.size))
    generalize wc = y0 at *
    clear HBc HBV0 HF0 hf0 hf1 hr0 hr1 hr2 hr3 HD HB0 C0 P0
    obtain ⟨A, m, cc, rfl, hnc, hcm, hm, hA⟩ := HIB.out
    rw [be_length] at hm
    subst hm
    have HA := Lib.hid hA
    clear hA hnc hcm HIB
    obtain ⟨i0, hi0, hz0, hz1, hz2⟩ := info_parts HI.out
    go_wp2_with (at_builtin; refine wpList_append_has _ rfl (.tmp 28) (.tmp 29) _ rfl S 5 i0 (.int .u8 0) 1 Tryd.underlying25 hi0 hz0 hz1 hz2 rfl (.slice none 0 0) 0 [] rfl (World.ownsRow_nil _ _ _ _) _ 4 _ (vals (be 4 a)) rfl (by rw [vals_length, be_length]) HA.out (vals_one _) (by unfold maxLen; omega) (by omega) (next_base HSS.out HBX0.out) ?_; intro r1 w2 hown2 hgrow2 _; have HO1 : Hid (w2.ownsRow S 5 1 r1 4 (vals (rb a l.toNat c.toNat n.toNat 1))) := (show _ from hown2); have HB1 := Lib.hid (HBX0.out.grown hgrow2 HBX0.out.size (fun q hq => by simp [Value.ownBlock] at hq)); clear hown2 hgrow2)
    clear HA hi0 hz0 hz1 hz2 HBX0
    have q0 := (HQ.out w2 HB1.out).1 3
    have q1 := (HQ.out w2 HB1.out).1 4
    have q2 := (HQ.out w2 HB1.out).1 5
    simp [fieldCells] at q0 q1 q2
    rw [rounds_succ]
    go_upto_region 5 with fail
    clear q0 q1 q2
    obtain ⟨V1, hV⟩ : ∃ V, w2.alloc (.cells #[.int .i64 1, .func (.func 67) #[] #[], .func (.func 68) #[] #[]] 73) = V := ⟨_, rfl⟩
    obtain ⟨G1, hG⟩ : ∃ G, w2.heap.size = G := ⟨_, rfl⟩
    rw [hV, hG]
    have HBV1 : Hid (Below w1.heap.size w1 V1) := by subst hV; exact HB1.out.alloc HB1.out.size _
    have HF1 : Hid (∀ wx, Below V1.heap.size V1 wx → (wx.cell? ⟨G1, 0, none⟩ = some (.int .i64 1) ∧ wx.cell? ⟨G1, 1, none⟩ = some (.func (.func 67) #[] #[])) ∧ RCells g a l c n wx) := by
      intro wx hx
      refine ⟨?_, (HQ.out wx (HBV1.out.trans (hx.mono HBV1.out.size))).2⟩
      subst hV hG
      exact ⟨boxed hx 0, boxed hx 1⟩
    have HOV1 : Hid (V1.ownsRow S 5 1 r1 4 (vals (rb a l.toNat c.toNat n.toNat 1))) := by
      subst hV
      exact own_bel HO1.out ((Below.refl _ _).alloc (Nat.le_refl _) _)
    have hf0 := (HF1.out V1 (Below.refl _ _)).1.1
    have hf1 := (HF1.out V1 (Below.refl _ _)).1.2
    obtain ⟨hr0, hr1, hr2, hr3⟩ := (HF1.out V1 (Below.refl _ _)).2
    have HD := Lib.hid (Below.refl V1.heap.size V1).drew
    clear hV hG
    go_cut [7, 8] (fun b x wx => x = .int .i64 1 ∧ Hid (IsB wx b ([])) ∧ Hid (Below V1.heap.size V1 wx))
    case first =>
      go_region_held3 (fun w' => w'.cell? ⟨G1, 0, none⟩ = some (.int .i64 1) ∧ w'.cell? ⟨G1, 1, none⟩ = some (.func (.func 67) #[] #[]) ∧ w'.cell? ⟨g, 0, none⟩ = some (.int .u32 (a : Int)) ∧ w'.cell? ⟨g, 1, none⟩ = some (.int .i64 l) ∧ w'.cell? ⟨g, 2, none⟩ = some (.int .i64 c) ∧ w'.cell? ⟨g, 3, none⟩ = some (.int .i64 n))
        (first | go_keep | exact ⟨(HF1.out _ K2.out).1.1, (HF1.out _ K2.out).1.2, (HF1.out _ K2.out).2.1, (HF1.out _ K2.out).2.2.1, (HF1.out _ K2.out).2.2.2.1, (HF1.out _ K2.out).2.2.2.2⟩ | exact ⟨(HF1.out _ K1.out).1.1, (HF1.out _ K1.out).1.2, (HF1.out _ K1.out).2.1, (HF1.out _ K1.out).2.2.1, (HF1.out _ K1.out).2.2.2.1, (HF1.out _ K1.out).2.2.2.2⟩)
        (first
          | (go_simp; go_at_call 67; refine (C1.out _).mono ?_; rintro e x1 ⟨rfl, hb1⟩; have K1 := Lib.hid (HD.out.trans (hb1.mono HD.out.size)); clear hb1)
          | (go_simp; go_at_call 43; refine (P1.out _).mono ?_; rintro e x2 ⟨v2, rfl, hv2, hb2⟩; have K2 := Lib.hid (K1.out.trans (hb2.mono K1.out.size)); have HV2 := Lib.hid hv2; clear hb2 hv2))
      all_goals
        go_wp2_with fail
        go_meet
        exact ⟨rfl, HV2, K2⟩
    case rest =>
      obtain ⟨rfl, HIB, HBc⟩ := hcut
      have HBX1 := Lib.hid (HBV1.out.trans (HBc.out.mono HBV1.out.size))
      have HOX1 := Lib.hid (own_bel HOV1.out HBc.out)
      generalize wc = y1 at *
      clear HBc HBV1 HF1 hf0 hf1 hr0 hr1 hr2 hr3 HD HOV1 HB1 HO1 C1 P1
      go_wp2_with fail
      go_ret2
      exact ⟨_, rfl, IsB.nil_ _, HS.out.trans (HBX1.out.mono HZ.out)⟩
set_option maxHeartbeats 4000000 in
theorem rulput_no2 (a : Nat) (l c n : Int) (w : World) (ha : (a : Int) ≤ 4294967295) (hl : 0 ≤ l ∧ l ≤ 255) (hc : c < 0 ∨ 256 ≤ c) :
    Calls Tryd.prog 22 #[.agg #[.int .u32 a, .int .i64 l, .int .i64 c, .int .i64 n]] w fun e w' => ∃ v, e = .returned (.tuple #[v, .int .i64 1]) ∧ IsB w' v [] ∧ Below w.heap.size w w' := by
  have C0 := Lib.hid (fun w => get1_any a l c n w ha)
  have C1 := Lib.hid (fun w => get3_any a l c n w)
  have C2 := Lib.hid (fun w => get5_any a l c n w)
  have C3 := Lib.hid (fun w => get7_any a l c n w)
  have P0 := Lib.hid (fun w => put_fits a 4 w (by omega) (by omega) (by omega))
  have P1 := Lib.hid (fun w => put_fits l.toNat 1 w (by omega) (by omega) (by omega))
  rw [Int.toNat_of_nonneg hl.1] at P1
  have P2 := Lib.hid (fun w => put_fits_not c 1 w (by omega))
  clear ha hl hc
  have HI := Lib.hid byte_info
  go_enter Tryd.func22, Tryd.ntmps22
  go_wp2_with fail
  refine (fields_any _).mono ?_
  rintro e1 w1 ⟨rfl, rfl⟩
  obtain ⟨g, hg⟩ : ∃ g, w.heap.size = g := ⟨_, rfl⟩
  obtain ⟨w1, hw1⟩ : ∃ w1, (w.alloc (.cells #[.int .u32 (a : Int), .int .i64 l, .int .i64 c, .int .i64 n] 47)).alloc (.cells fieldCells 73) = w1 := ⟨_, rfl⟩
  rw [hw1]
  simp only [World.size_alloc, hg]
  have HQ : Hid (∀ wx, Below w1.heap.size w1 wx → (∀ j, wx.cell? ⟨g + 1, j, none⟩ = fieldCells[j]?) ∧ RCells g a l c n wx) := by
    intro wx hx
    subst hw1 hg
    refine ⟨fun j => by have := boxed hx j; simpa only [World.size_alloc] using this, ?_⟩
    exact ⟨boxed (unbox hx) 0, boxed (unbox hx) 1, boxed (unbox hx) 2, boxed (unbox hx) 3⟩
  have HS : Hid (Below w.heap.size w w1) := by
    subst hw1
    exact ((Below.refl w.heap.size w).alloc (Nat.le_refl _) _).alloc (by simp only [World.size_alloc]; omega) _
  have HZ : Hid (w.heap.size ≤ w1.heap.size) := HS.out.size
  have HB0 := Lib.hid (Below.refl w1.heap.size w1)
  obtain ⟨S, hS⟩ : ∃ S, w1.heap.size = S := ⟨_, rfl⟩
  have HSS := Lib.hid hS
  clear hw1 hg hS
  go_wp2_with fail
  refine wp_loop_rounds 5 ?_
  have q0 := (HQ.out w1 HB0.out).1 0
  have q1 := (HQ.out w1 HB0.out).1 1
  have q2 := (HQ.out w1 HB0.out).1 2
  simp [fieldCells] at q0 q1 q2
  rw [rounds_succ]
  go_upto_region 5 with fail
  clear q0 q1 q2
  obtain ⟨V0, hV⟩ : ∃ V, w1.alloc (.cells #[.int .i64 4, .func (.func 65) #[] #[], .func (.func 66) #[] #[]] 73) = V := ⟨_, rfl⟩
  obtain ⟨G0, hG⟩ : ∃ G, w1.heap.size = G := ⟨_, rfl⟩
  rw [hV, hG]
  have HBV0 : Hid (Below w1.heap.size w1 V0) := by subst hV; exact HB0.out.alloc HB0.out.size _
  have HF0 : Hid (∀ wx, Below V0.heap.size V0 wx → (wx.cell? ⟨G0, 0, none⟩ = some (.int .i64 4) ∧ wx.cell? ⟨G0, 1, none⟩ = some (.func (.func 65) #[] #[])) ∧ RCells g a l c n wx) := by
    intro wx hx
    refine ⟨?_, (HQ.out wx (HBV0.out.trans (hx.mono HBV0.out.size))).2⟩
    subst hV hG
    exact ⟨boxed hx 0, boxed hx 1⟩
  have hf0 := (HF0.out V0 (Below.refl _ _)).1.1
  have hf1 := (HF0.out V0 (Below.refl _ _)).1.2
  obtain ⟨hr0, hr1, hr2, hr3⟩ := (HF0.out V0 (Below.refl _ _)).2
  have HD := Lib.hid (Below.refl V0.heap.size V0).drew
  clear hV hG
  go_cut [7, 8] (fun b x wx => x = .int .i64 0 ∧ Hid (IsB wx b (be 4 a)) ∧ Hid (Below V0.heap.size V0 wx))
  case first =>
    go_region_held3 (fun w' => w'.cell? ⟨G0, 0, none⟩ = some (.int .i64 4) ∧ w'.cell? ⟨G0, 1, none⟩ = some (.func (.func 65) #[] #[]) ∧ w'.cell? ⟨g, 0, none⟩ = some (.int .u32 (a : Int)) ∧ w'.cell? ⟨g, 1, none⟩ = some (.int .i64 l) ∧ w'.cell? ⟨g, 2, none⟩ = some (.int .i64 c) ∧ w'.cell? ⟨g, 3, none⟩ = some (.int .i64 n))
      (first | go_keep | exact ⟨(HF0.out _ K2.out).1.1, (HF0.out _ K2.out).1.2, (HF0.out _ K2.out).2.1, (HF0.out _ K2.out).2.2.1, (HF0.out _ K2.out).2.2.2.1, (HF0.out _ K2.out).2.2.2.2⟩ | exact ⟨(HF0.out _ K1.out).1.1, (HF0.out _ K1.out).1.2, (HF0.out _ K1.out).2.1, (HF0.out _ K1.out).2.2.1, (HF0.out _ K1.out).2.2.2.1, (HF0.out _ K1.out).2.2.2.2⟩)
      (first
        | (go_simp; go_at_call 65; refine (C0.out _).mono ?_; rintro e x1 ⟨rfl, hb1⟩; have K1 := Lib.hid (HD.out.trans (hb1.mono HD.out.size)); clear hb1)
        | (go_simp; go_at_call 43; refine (P0.out _).mono ?_; rintro e x2 ⟨v2, rfl, hv2, hb2⟩; have K2 := Lib.hid (K1.out.trans (hb2.mono K1.out.size)); have HV2 := Lib.hid hv2; clear hb2 hv2))
    all_goals
      go_wp2_with fail
      go_meet
      exact ⟨rfl, HV2, K2⟩
  case rest =>
    obtain ⟨rfl, HIB, HBc⟩ := hcut
    have HBX0 := Lib.hid (HBV0.out.trans (HBc.out.mono HBV0.out.size))
    generalize wc = y0 at *
    clear HBc HBV0 HF0 hf0 hf1 hr0 hr1 hr2 hr3 HD HB0 C0 P0
    obtain ⟨A, m, cc, rfl, hnc, hcm, hm, hA⟩ := HIB.out
    rw [be_length] at hm
    subst hm
    have HA := Lib.hid hA
    clear hA hnc hcm HIB
    obtain ⟨i0, hi0, hz0, hz1, hz2⟩ := info_parts HI.out
    go_wp2_with (at_builtin; refine wpList_append_has _ rfl (.tmp 28) (.tmp 29) _ rfl S 5 i0 (.int .u8 0) 1 Tryd.underlying25 hi0 hz0 hz1 hz2 rfl (.slice none 0 0) 0 [] rfl (World.ownsRow_nil _ _ _ _) _ 4 _ (vals (be 4 a)) rfl (by rw [vals_length, be_length]) HA.out (vals_one _) (by unfold maxLen; omega) (by omega) (next_base HSS.out HBX0.out) ?_; intro r1 w2 hown2 hgrow2 _; have HO1 : Hid (w2.ownsRow S 5 1 r1 4 (vals (rb a l.toNat c.toNat n.toNat 1))) := (show _ from hown2); have HB1 := Lib.hid (HBX0.out.grown hgrow2 HBX0.out.size (fun q hq => by simp [Value.ownBlock] at hq)); clear hown2 hgrow2)
    clear HA hi0 hz0 hz1 hz2 HBX0
    have q0 := (HQ.out w2 HB1.out).1 3
    have q1 := (HQ.out w2 HB1.out).1 4
    have q2 := (HQ.out w2 HB1.out).1 5
    simp [fieldCells] at q0 q1 q2
    rw [rounds_succ]
    go_upto_region 5 with fail
    clear q0 q1 q2
    obtain ⟨V1, hV⟩ : ∃ V, w2.alloc (.cells #[.int .i64 1, .func (.func 67) #[] #[], .func (.func 68) #[] #[]] 73) = V := ⟨_, rfl⟩
    obtain ⟨G1, hG⟩ : ∃ G, w2.heap.size = G := ⟨_, rfl⟩
    rw [hV, hG]
    have HBV1 : Hid (Below w1.heap.size w1 V1) := by subst hV; exact HB1.out.alloc HB1.out.size _
    have HF1 : Hid (∀ wx, Below V1.heap.size V1 wx → (wx.cell? ⟨G1, 0, none⟩ = some (.int .i64 1) ∧ wx.cell? ⟨G1, 1, none⟩ = some (.func (.func 67) #[] #[])) ∧ RCells g a l c n wx) := by
      intro wx hx
      refine ⟨?_, (HQ.out wx (HBV1.out.trans (hx.mono HBV1.out.size))).2⟩
      subst hV hG
      exact ⟨boxed hx 0, boxed hx 1⟩
    have HOV1 : Hid (V1.ownsRow S 5 1 r1 4 (vals (rb a l.toNat c.toNat n.toNat 1))) := by
      subst hV
      exact own_bel HO1.out ((Below.refl _ _).alloc (Nat.le_refl _) _)
    have hf0 := (HF1.out V1 (Below.refl _ _)).1.1
    have hf1 := (HF1.out V1 (Below.refl _ _)).1.2
    obtain ⟨hr0, hr1, hr2, hr3⟩ := (HF1.out V1 (Below.refl _ _)).2
    have HD := Lib.hid (Below.refl V1.heap.size V1).drew
    clear hV hG
    go_cut [7, 8] (fun b x wx => x = .int .i64 0 ∧ Hid (IsB wx b (be 1 l.toNat)) ∧ Hid (Below V1.heap.size V1 wx))
    case first =>
      go_region_held3 (fun w' => w'.cell? ⟨G1, 0, none⟩ = some (.int .i64 1) ∧ w'.cell? ⟨G1, 1, none⟩ = some (.func (.func 67) #[] #[]) ∧ w'.cell? ⟨g, 0, none⟩ = some (.int .u32 (a : Int)) ∧ w'.cell? ⟨g, 1, none⟩ = some (.int .i64 l) ∧ w'.cell? ⟨g, 2, none⟩ = some (.int .i64 c) ∧ w'.cell? ⟨g, 3, none⟩ = some (.int .i64 n))
        (first | go_keep | exact ⟨(HF1.out _ K2.out).1.1, (HF1.out _ K2.out).1.2, (HF1.out _ K2.out).2.1, (HF1.out _ K2.out).2.2.1, (HF1.out _ K2.out).2.2.2.1, (HF1.out _ K2.out).2.2.2.2⟩ | exact ⟨(HF1.out _ K1.out).1.1, (HF1.out _ K1.out).1.2, (HF1.out _ K1.out).2.1, (HF1.out _ K1.out).2.2.1, (HF1.out _ K1.out).2.2.2.1, (HF1.out _ K1.out).2.2.2.2⟩)
        (first
          | (go_simp; go_at_call 67; refine (C1.out _).mono ?_; rintro e x1 ⟨rfl, hb1⟩; have K1 := Lib.hid (HD.out.trans (hb1.mono HD.out.size)); clear hb1)
          | (go_simp; go_at_call 43; refine (P1.out _).mono ?_; rintro e x2 ⟨v2, rfl, hv2, hb2⟩; have K2 := Lib.hid (K1.out.trans (hb2.mono K1.out.size)); have HV2 := Lib.hid hv2; clear hb2 hv2))
      all_goals
        go_wp2_with fail
        go_meet
        exact ⟨rfl, HV2, K2⟩
    case rest =>
      obtain ⟨rfl, HIB, HBc⟩ := hcut
      have HBX1 := Lib.hid (HBV1.out.trans (HBc.out.mono HBV1.out.size))
      have HOX1 := Lib.hid (own_bel HOV1.out HBc.out)
      generalize wc = y1 at *
      clear HBc HBV1 HF1 hf0 hf1 hr0 hr1 hr2 hr3 HD HOV1 HB1 HO1 C1 P1
      obtain ⟨A, m, cc, rfl, hnc, hcm, hm, hA⟩ := HIB.out
      rw [be_length] at hm
      subst hm
      have HA := Lib.hid hA
      clear hA hnc hcm HIB
      obtain ⟨i0, hi0, hz0, hz1, hz2⟩ := info_parts HI.out
      go_wp2_with (at_builtin; refine wpList_append_has _ rfl (.tmp 28) (.tmp 29) _ rfl S 5 i0 (.int .u8 0) 1 Tryd.underlying25 hi0 hz0 hz1 hz2 rfl r1 4 (vals (rb a l.toNat c.toNat n.toNat 1)) rfl HOX1.out _ 1 _ (vals (be 1 l.toNat)) rfl (by rw [vals_length, be_length]) HA.out (vals_one _) (by unfold maxLen; omega) (by omega) (next_base HSS.out HBX1.out) ?_; intro r2 w3 hown2 hgrow2 _; have HO2 : Hid (w3.ownsRow S 5 1 r2 5 (vals (rb a l.toNat c.toNat n.toNat 2))) := (own_next hown2); have HB2 := Lib.hid (next_below HSS.out HBX1.out HOX1.out hgrow2); clear hown2 hgrow2)
      clear HA hi0 hz0 hz1 hz2 HBX1 HOX1
      have q0 := (HQ.out w3 HB2.out).1 6
      have q1 := (HQ.out w3 HB2.out).1 7
      have q2 := (HQ.out w3 HB2.out).1 8
      simp [fieldCells] at q0 q1 q2
      rw [rounds_succ]
      go_upto_region 5 with fail
      clear q0 q1 q2
      obtain ⟨V2, hV⟩ : ∃ V, w3.alloc (.cells #[.int .i64 1, .func (.func 69) #[] #[], .func (.func 70) #[] #[]] 73) = V := ⟨_, rfl⟩
      obtain ⟨G2, hG⟩ : ∃ G, w3.heap.size = G := ⟨_, rfl⟩
      rw [hV, hG]
      have HBV2 : Hid (Below w1.heap.size w1 V2) := by subst hV; exact HB2.out.alloc HB2.out.size _
      have HF2 : Hid (∀ wx, Below V2.heap.size V2 wx → (wx.cell? ⟨G2, 0, none⟩ = some (.int .i64 1) ∧ wx.cell? ⟨G2, 1, none⟩ = some (.func (.func 69) #[] #[])) ∧ RCells g a l c n wx) := by
        intro wx hx
        refine ⟨?_, (HQ.out wx (HBV2.out.trans (hx.mono HBV2.out.size))).2⟩
        subst hV hG
        exact ⟨boxed hx 0, boxed hx 1⟩
      have HOV2 : Hid (V2.ownsRow S 5 1 r2 5 (vals (rb a l.toNat c.toNat n.toNat 2))) := by
        subst hV
        exact own_bel HO2.out ((Below.refl _ _).alloc (Nat.le_refl _) _)
      have hf0 := (HF2.out V2 (Below.refl _ _)).1.1
      have hf1 := (HF2.out V2 (Below.refl _ _)).1.2
      obtain ⟨hr0, hr1, hr2, hr3⟩ := (HF2.out V2 (Below.refl _ _)).2
      have HD := Lib.hid (Below.refl V2.heap.size V2).drew
      clear hV hG
      go_cut [7, 8] (fun b x wx => x = .int .i64 1 ∧ Hid (IsB wx b ([])) ∧ Hid (Below V2.heap.size V2 wx))
      case first =>
        go_region_held3 (fun w' => w'.cell? ⟨G2, 0, none⟩ = some (.int .i64 1) ∧ w'.cell? ⟨G2, 1, none⟩ = some (.func (.func 69) #[] #[]) ∧ w'.cell? ⟨g, 0, none⟩ = some (.int .u32 (a : Int)) ∧ w'.cell? ⟨g, 1, none⟩ = some (.int .i64 l) ∧ w'.cell? ⟨g, 2, none⟩ = some (.int .i64 c) ∧ w'.cell? ⟨g, 3, none⟩ = some (.int .i64 n))
          (first | go_keep | exact ⟨(HF2.out _ K2.out).1.1, (HF2.out _ K2.out).1.2, (HF2.out _ K2.out).2.1, (HF2.out _ K2.out).2.2.1, (HF2.out _ K2.out).2.2.2.1, (HF2.out _ K2.out).2.2.2.2⟩ | exact ⟨(HF2.out _ K1.out).1.1, (HF2.out _ K1.out).1.2, (HF2.out _ K1.out).2.1, (HF2.out _ K1.out).2.2.1, (HF2.out _ K1.out).2.2.2.1, (HF2.out _ K1.out).2.2.2.2⟩)
          (first
            | (go_simp; go_at_call 69; refine (C2.out _).mono ?_; rintro e x1 ⟨rfl, hb1⟩; have K1 := Lib.hid (HD.out.trans (hb1.mono HD.out.size)); clear hb1)
            | (go_simp; go_at_call 43; refine (P2.out _).mono ?_; rintro e x2 ⟨v2, rfl, hv2, hb2⟩; have K2 := Lib.hid (K1.out.trans (hb2.mono K1.out.size)); have HV2 := Lib.hid hv2; clear hb2 hv2))
        all_goals
          go_wp2_with fail
          go_meet
          exact ⟨rfl, HV2, K2⟩
      case rest =>
        obtain ⟨rfl, HIB, HBc⟩ := hcut
        have HBX2 := Lib.hid (HBV2.out.trans (HBc.out.mono HBV2.out.size))
        have HOX2 := Lib.hid (own_bel HOV2.out HBc.out)
        generalize wc = y2 at *
        clear HBc HBV2 HF2 hf0 hf1 hr0 hr1 hr2 hr3 HD HOV2 HB2 HO2 C2 P2
        go_wp2_with fail
        go_ret2
        exact ⟨_, rfl, IsB.nil_ _, HS.out.trans (HBX2.out.mono HZ.out)⟩
set_option maxHeartbeats 4000000 in
theorem rulput_no3 (a : Nat) (l c n : Int) (w : World) (ha : (a : Int) ≤ 4294967295) (hl : 0 ≤ l ∧ l ≤ 255) (hc : 0 ≤ c ∧ c ≤ 255) (hn : n < 0 ∨ 65536 ≤ n) :
    Calls Tryd.prog 22 #[.agg #[.int .u32 a, .int .i64 l, .int .i64 c, .int .i64 n]] w fun e w' => ∃ v, e = .returned (.tuple #[v, .int .i64 1]) ∧ IsB w' v [] ∧ Below w.heap.size w w' := by
  have C0 := Lib.hid (fun w => get1_any a l c n w ha)
  have C1 := Lib.hid (fun w => get3_any a l c n w)
  have C2 := Lib.hid (fun w => get5_any a l c n w)
  have C3 := Lib.hid (fun w => get7_any a l c n w)
  have P0 := Lib.hid (fun w => put_fits a 4 w (by omega) (by omega) (by omega))
  have P1 := Lib.hid (fun w => put_fits l.toNat 1 w (by omega) (by omega) (by omega))
  rw [Int.toNat_of_nonneg hl.1] at P1
  have P2 := Lib.hid (fun w => put_fits c.toNat 1 w (by omega) (by omega) (by omega))
  rw [Int.toNat_of_nonneg hc.1] at P2
  have P3 := Lib.hid (fun w => put_fits_not n 2 w (by omega))
  clear ha hl hc hn
  have HI := Lib.hid byte_info
  go_enter Tryd.func22, Tryd.ntmps22
  go_wp2_with fail
  refine (fields_any _).mono ?_
  rintro e1 w1 ⟨rfl, rfl⟩
  obtain ⟨g, hg⟩ : ∃ g, w.heap.size = g := ⟨_, rfl⟩
  obtain ⟨w1, hw1⟩ : ∃ w1, (w.alloc (.cells #[.int .u32 (a : Int), .int .i64 l, .int .i64 c, .int .i64 n] 47)).alloc (.cells fieldCells 73) = w1 := ⟨_, rfl⟩
  rw [hw1]
  simp only [World.size_alloc, hg]
  have HQ : Hid (∀ wx, Below w1.heap.size w1 wx → (∀ j, wx.cell? ⟨g + 1, j, none⟩ = fieldCells[j]?) ∧ RCells g a l c n wx) := by
    intro wx hx
    subst hw1 hg
    refine ⟨fun j => by have := boxed hx j; simpa only [World.size_alloc] using this, ?_⟩
    exact ⟨boxed (unbox hx) 0, boxed (unbox hx) 1, boxed (unbox hx) 2, boxed (unbox hx) 3⟩
  have HS : Hid (Below w.heap.size w w1) := by
    subst hw1
    exact ((Below.refl w.heap.size w).alloc (Nat.le_refl _) _).alloc (by simp only [World.size_alloc]; omega) _
  have HZ : Hid (w.heap.size ≤ w1.heap.size) := HS.out.size
  have HB0 := Lib.hid (Below.refl w1.heap.size w1)
  obtain ⟨S, hS⟩ : ∃ S, w1.heap.size = S := ⟨_, rfl⟩
  have HSS := Lib.hid hS
  clear hw1 hg hS
  go_wp2_with fail
  refine wp_loop_rounds 5 ?_
  have q0 := (HQ.out w1 HB0.out).1 0
  have q1 := (HQ.out w1 HB0.out).1 1
  have q2 := (HQ.out w1 HB0.out).1 2
  simp [fieldCells] at q0 q1 q2
  rw [rounds_succ]
  go_upto_region 5 with fail
  clear q0 q1 q2
  obtain ⟨V0, hV⟩ : ∃ V, w1.alloc (.cells #[.int .i64 4, .func (.func 65) #[] #[], .func (.func 66) #[] #[]] 73) = V := ⟨_, rfl⟩
  obtain ⟨G0, hG⟩ : ∃ G, w1.heap.size = G := ⟨_, rfl⟩
  rw [hV, hG]
  have HBV0 : Hid (Below w1.heap.size w1 V0) := by subst hV; exact HB0.out.alloc HB0.out.size _
  have HF0 : Hid (∀ wx, Below V0.heap.size V0 wx → (wx.cell? ⟨G0, 0, none⟩ = some (.int .i64 4) ∧ wx.cell? ⟨G0, 1, none⟩ = some (.func (.func 65) #[] #[])) ∧ RCells g a l c n wx) := by
    intro wx hx
    refine ⟨?_, (HQ.out wx (HBV0.out.trans (hx.mono HBV0.out.size))).2⟩
    subst hV hG
    exact ⟨boxed hx 0, boxed hx 1⟩
  have hf0 := (HF0.out V0 (Below.refl _ _)).1.1
  have hf1 := (HF0.out V0 (Below.refl _ _)).1.2
  obtain ⟨hr0, hr1, hr2, hr3⟩ := (HF0.out V0 (Below.refl _ _)).2
  have HD := Lib.hid (Below.refl V0.heap.size V0).drew
  clear hV hG
  go_cut [7, 8] (fun b x wx => x = .int .i64 0 ∧ Hid (IsB wx b (be 4 a)) ∧ Hid (Below V0.heap.size V0 wx))
  case first =>
    go_region_held3 (fun w' => w'.cell? ⟨G0, 0, none⟩ = some (.int .i64 4) ∧ w'.cell? ⟨G0, 1, none⟩ = some (.func (.func 65) #[] #[]) ∧ w'.cell? ⟨g, 0, none⟩ = some (.int .u32 (a : Int)) ∧ w'.cell? ⟨g, 1, none⟩ = some (.int .i64 l) ∧ w'.cell? ⟨g, 2, none⟩ = some (.int .i64 c) ∧ w'.cell? ⟨g, 3, none⟩ = some (.int .i64 n))
      (first | go_keep | exact ⟨(HF0.out _ K2.out).1.1, (HF0.out _ K2.out).1.2, (HF0.out _ K2.out).2.1, (HF0.out _ K2.out).2.2.1, (HF0.out _ K2.out).2.2.2.1, (HF0.out _ K2.out).2.2.2.2⟩ | exact ⟨(HF0.out _ K1.out).1.1, (HF0.out _ K1.out).1.2, (HF0.out _ K1.out).2.1, (HF0.out _ K1.out).2.2.1, (HF0.out _ K1.out).2.2.2.1, (HF0.out _ K1.out).2.2.2.2⟩)
      (first
        | (go_simp; go_at_call 65; refine (C0.out _).mono ?_; rintro e x1 ⟨rfl, hb1⟩; have K1 := Lib.hid (HD.out.trans (hb1.mono HD.out.size)); clear hb1)
        | (go_simp; go_at_call 43; refine (P0.out _).mono ?_; rintro e x2 ⟨v2, rfl, hv2, hb2⟩; have K2 := Lib.hid (K1.out.trans (hb2.mono K1.out.size)); have HV2 := Lib.hid hv2; clear hb2 hv2))
    all_goals
      go_wp2_with fail
      go_meet
      exact ⟨rfl, HV2, K2⟩
  case rest =>
    obtain ⟨rfl, HIB, HBc⟩ := hcut
    have HBX0 := Lib.hid (HBV0.out.trans (HBc.out.mono HBV0.out.size))
    generalize wc = y0 at *
    clear HBc HBV0 HF0 hf0 hf1 hr0 hr1 hr2 hr3 HD HB0 C0 P0
    obtain ⟨A, m, cc, rfl, hnc, hcm, hm, hA⟩ := HIB.out
    rw [be_length] at hm
    subst hm
    have HA := Lib.hid hA
    clear hA hnc hcm HIB
    obtain ⟨i0, hi0, hz0, hz1, hz2⟩ := info_parts HI.out
    go_wp2_with (at_builtin; refine wpList_append_has _ rfl (.tmp 28) (.tmp 29) _ rfl S 5 i0 (.int .u8 0) 1 Tryd.underlying25 hi0 hz0 hz1 hz2 rfl (.slice none 0 0) 0 [] rfl (World.ownsRow_nil _ _ _ _) _ 4 _ (vals (be 4 a)) rfl (by rw [vals_length, be_length]) HA.out (vals_one _) (by unfold maxLen; omega) (by omega) (next_base HSS.out HBX0.out) ?_; intro r1 w2 hown2 hgrow2 _; have HO1 : Hid (w2.ownsRow S 5 1 r1 4 (vals (rb a l.toNat c.toNat n.toNat 1))) := (show _ from hown2); have HB1 := Lib.hid (HBX0.out.grown hgrow2 HBX0.out.size (fun q hq => by simp [Value.ownBlock] at hq)); clear hown2 hgrow2)
    clear HA hi0 hz0 hz1 hz2 HBX0
    have q0 := (HQ.out w2 HB1.out).1 3
    have q1 := (HQ.out w2 HB1.out).1 4
    have q2 := (HQ.out w2 HB1.out).1 5
    simp [fieldCells] at q0 q1 q2
    rw [rounds_succ]
    go_upto_region 5 with fail
    clear q0 q1 q2
    obtain ⟨V1, hV⟩ : ∃ V, w2.alloc (.cells #[.int .i64 1, .func (.func 67) #[] #[], .func (.func 68) #[] #[]] 73) = V := ⟨_, rfl⟩
    obtain ⟨G1, hG⟩ : ∃ G, w2.heap.size = G := ⟨_, rfl⟩
    rw [hV, hG]
    have HBV1 : Hid (Below w1.heap.size w1 V1) := by subst hV; exact HB1.out.alloc HB1.out.size _
    have HF1 : Hid (∀ wx, Below V1.heap.size V1 wx → (wx.cell? ⟨G1, 0, none⟩ = some (.int .i64 1) ∧ wx.cell? ⟨G1, 1, none⟩ = some (.func (.func 67) #[] #[])) ∧ RCells g a l c n wx) := by
      intro wx hx
      refine ⟨?_, (HQ.out wx (HBV1.out.trans (hx.mono HBV1.out.size))).2⟩
      subst hV hG
      exact ⟨boxed hx 0, boxed hx 1⟩
    have HOV1 : Hid (V1.ownsRow S 5 1 r1 4 (vals (rb a l.toNat c.toNat n.toNat 1))) := by
      subst hV
      exact own_bel HO1.out ((Below.refl _ _).alloc (Nat.le_refl _) _)
    have hf0 := (HF1.out V1 (Below.refl _ _)).1.1
    have hf1 := (HF1.out V1 (Below.refl _ _)).1.2
    obtain ⟨hr0, hr1, hr2, hr3⟩ := (HF1.out V1 (Below.refl _ _)).2
    have HD := Lib.hid (Below.refl V1.heap.size V1).drew
    clear hV hG
    go_cut [7, 8] (fun b x wx => x = .int .i64 0 ∧ Hid (IsB wx b (be 1 l.toNat)) ∧ Hid (Below V1.heap.size V1 wx))
    case first =>
      go_region_held3 (fun w' => w'.cell? ⟨G1, 0, none⟩ = some (.int .i64 1) ∧ w'.cell? ⟨G1, 1, none⟩ = some (.func (.func 67) #[] #[]) ∧ w'.cell? ⟨g, 0, none⟩ = some (.int .u32 (a : Int)) ∧ w'.cell? ⟨g, 1, none⟩ = some (.int .i64 l) ∧ w'.cell? ⟨g, 2, none⟩ = some (.int .i64 c) ∧ w'.cell? ⟨g, 3, none⟩ = some (.int .i64 n))
        (first | go_keep | exact ⟨(HF1.out _ K2.out).1.1, (HF1.out _ K2.out).1.2, (HF1.out _ K2.out).2.1, (HF1.out _ K2.out).2.2.1, (HF1.out _ K2.out).2.2.2.1, (HF1.out _ K2.out).2.2.2.2⟩ | exact ⟨(HF1.out _ K1.out).1.1, (HF1.out _ K1.out).1.2, (HF1.out _ K1.out).2.1, (HF1.out _ K1.out).2.2.1, (HF1.out _ K1.out).2.2.2.1, (HF1.out _ K1.out).2.2.2.2⟩)
        (first
          | (go_simp; go_at_call 67; refine (C1.out _).mono ?_; rintro e x1 ⟨rfl, hb1⟩; have K1 := Lib.hid (HD.out.trans (hb1.mono HD.out.size)); clear hb1)
          | (go_simp; go_at_call 43; refine (P1.out _).mono ?_; rintro e x2 ⟨v2, rfl, hv2, hb2⟩; have K2 := Lib.hid (K1.out.trans (hb2.mono K1.out.size)); have HV2 := Lib.hid hv2; clear hb2 hv2))
      all_goals
        go_wp2_with fail
        go_meet
        exact ⟨rfl, HV2, K2⟩
    case rest =>
      obtain ⟨rfl, HIB, HBc⟩ := hcut
      have HBX1 := Lib.hid (HBV1.out.trans (HBc.out.mono HBV1.out.size))
      have HOX1 := Lib.hid (own_bel HOV1.out HBc.out)
      generalize wc = y1 at *
      clear HBc HBV1 HF1 hf0 hf1 hr0 hr1 hr2 hr3 HD HOV1 HB1 HO1 C1 P1
      obtain ⟨A, m, cc, rfl, hnc, hcm, hm, hA⟩ := HIB.out
      rw [be_length] at hm
      subst hm
      have HA := Lib.hid hA
      clear hA hnc hcm HIB
      obtain ⟨i0, hi0, hz0, hz1, hz2⟩ := info_parts HI.out
      go_wp2_with (at_builtin; refine wpList_append_has _ rfl (.tmp 28) (.tmp 29) _ rfl S 5 i0 (.int .u8 0) 1 Tryd.underlying25 hi0 hz0 hz1 hz2 rfl r1 4 (vals (rb a l.toNat c.toNat n.toNat 1)) rfl HOX1.out _ 1 _ (vals (be 1 l.toNat)) rfl (by rw [vals_length, be_length]) HA.out (vals_one _) (by unfold maxLen; omega) (by omega) (next_base HSS.out HBX1.out) ?_; intro r2 w3 hown2 hgrow2 _; have HO2 : Hid (w3.ownsRow S 5 1 r2 5 (vals (rb a l.toNat c.toNat n.toNat 2))) := (own_next hown2); have HB2 := Lib.hid (next_below HSS.out HBX1.out HOX1.out hgrow2); clear hown2 hgrow2)
      clear HA hi0 hz0 hz1 hz2 HBX1 HOX1
      have q0 := (HQ.out w3 HB2.out).1 6
      have q1 := (HQ.out w3 HB2.out).1 7
      have q2 := (HQ.out w3 HB2.out).1 8
      simp [fieldCells] at q0 q1 q2
      rw [rounds_succ]
      go_upto_region 5 with fail
      clear q0 q1 q2
      obtain ⟨V2, hV⟩ : ∃ V, w3.alloc (.cells #[.int .i64 1, .func (.func 69) #[] #[], .func (.func 70) #[] #[]] 73) = V := ⟨_, rfl⟩
      obtain ⟨G2, hG⟩ : ∃ G, w3.heap.size = G := ⟨_, rfl⟩
      rw [hV, hG]
      have HBV2 : Hid (Below w1.heap.size w1 V2) := by subst hV; exact HB2.out.alloc HB2.out.size _
      have HF2 : Hid (∀ wx, Below V2.heap.size V2 wx → (wx.cell? ⟨G2, 0, none⟩ = some (.int .i64 1) ∧ wx.cell? ⟨G2, 1, none⟩ = some (.func (.func 69) #[] #[])) ∧ RCells g a l c n wx) := by
        intro wx hx
        refine ⟨?_, (HQ.out wx (HBV2.out.trans (hx.mono HBV2.out.size))).2⟩
        subst hV hG
        exact ⟨boxed hx 0, boxed hx 1⟩
      have HOV2 : Hid (V2.ownsRow S 5 1 r2 5 (vals (rb a l.toNat c.toNat n.toNat 2))) := by
        subst hV
        exact own_bel HO2.out ((Below.refl _ _).alloc (Nat.le_refl _) _)
      have hf0 := (HF2.out V2 (Below.refl _ _)).1.1
      have hf1 := (HF2.out V2 (Below.refl _ _)).1.2
      obtain ⟨hr0, hr1, hr2, hr3⟩ := (HF2.out V2 (Below.refl _ _)).2
      have HD := Lib.hid (Below.refl V2.heap.size V2).drew
      clear hV hG
      go_cut [7, 8] (fun b x wx => x = .int .i64 0 ∧ Hid (IsB wx b (be 1 c.toNat)) ∧ Hid (Below V2.heap.size V2 wx))
      case first =>
        go_region_held3 (fun w' => w'.cell? ⟨G2, 0, none⟩ = some (.int .i64 1) ∧ w'.cell? ⟨G2, 1, none⟩ = some (.func (.func 69) #[] #[]) ∧ w'.cell? ⟨g, 0, none⟩ = some (.int .u32 (a : Int)) ∧ w'.cell? ⟨g, 1, none⟩ = some (.int .i64 l) ∧ w'.cell? ⟨g, 2, none⟩ = some (.int .i64 c) ∧ w'.cell? ⟨g, 3, none⟩ = some (.int .i64 n))
          (first | go_keep | exact ⟨(HF2.out _ K2.out).1.1, (HF2.out _ K2.out).1.2, (HF2.out _ K2.out).2.1, (HF2.out _ K2.out).2.2.1, (HF2.out _ K2.out).2.2.2.1, (HF2.out _ K2.out).2.2.2.2⟩ | exact ⟨(HF2.out _ K1.out).1.1, (HF2.out _ K1.out).1.2, (HF2.out _ K1.out).2.1, (HF2.out _ K1.out).2.2.1, (HF2.out _ K1.out).2.2.2.1, (HF2.out _ K1.out).2.2.2.2⟩)
          (first
            | (go_simp; go_at_call 69; refine (C2.out _).mono ?_; rintro e x1 ⟨rfl, hb1⟩; have K1 := Lib.hid (HD.out.trans (hb1.mono HD.out.size)); clear hb1)
            | (go_simp; go_at_call 43; refine (P2.out _).mono ?_; rintro e x2 ⟨v2, rfl, hv2, hb2⟩; have K2 := Lib.hid (K1.out.trans (hb2.mono K1.out.size)); have HV2 := Lib.hid hv2; clear hb2 hv2))
        all_goals
          go_wp2_with fail
          go_meet
          exact ⟨rfl, HV2, K2⟩
      case rest =>
        obtain ⟨rfl, HIB, HBc⟩ := hcut
        have HBX2 := Lib.hid (HBV2.out.trans (HBc.out.mono HBV2.out.size))
        have HOX2 := Lib.hid (own_bel HOV2.out HBc.out)
        generalize wc = y2 at *
        clear HBc HBV2 HF2 hf0 hf1 hr0 hr1 hr2 hr3 HD HOV2 HB2 HO2 C2 P2
        obtain ⟨A, m, cc, rfl, hnc, hcm, hm, hA⟩ := HIB.out
        rw [be_length] at hm
        subst hm
        have HA := Lib.hid hA
        clear hA hnc hcm HIB
        obtain ⟨i0, hi0, hz0, hz1, hz2⟩ := info_parts HI.out
        go_wp2_with (at_builtin; refine wpList_append_has _ rfl (.tmp 28) (.tmp 29) _ rfl S 5 i0 (.int .u8 0) 1 Tryd.underlying25 hi0 hz0 hz1 hz2 rfl r2 5 (vals (rb a l.toNat c.toNat n.toNat 2)) rfl HOX2.out _ 1 _ (vals (be 1 c.toNat)) rfl (by rw [vals_length, be_length]) HA.out (vals_one _) (by unfold maxLen; omega) (by omega) (next_base HSS.out HBX2.out) ?_; intro r3 w4 hown2 hgrow2 _; have HO3 : Hid (w4.ownsRow S 5 1 r3 6 (vals (rb a l.toNat c.toNat n.toNat 3))) := (own_next hown2); have HB3 := Lib.hid (next_below HSS.out HBX2.out HOX2.out hgrow2); clear hown2 hgrow2)
        clear HA hi0 hz0 hz1 hz2 HBX2 HOX2
        have q0 := (HQ.out w4 HB3.out).1 9
        have q1 := (HQ.out w4 HB3.out).1 10
        have q2 := (HQ.out w4 HB3.out).1 11
        simp [fieldCells] at q0 q1 q2
        rw [rounds_succ]
        go_upto_region 5 with fail
        clear q0 q1 q2
        obtain ⟨V3, hV⟩ : ∃ V, w4.alloc (.cells #[.int .i64 2, .func (.func 71) #[] #[], .func (.func 72) #[] #[]] 73) = V := ⟨_, rfl⟩
        obtain ⟨G3, hG⟩ : ∃ G, w4.heap.size = G := ⟨_, rfl⟩
        rw [hV, hG]
        have HBV3 : Hid (Below w1.heap.size w1 V3) := by subst hV; exact HB3.out.alloc HB3.out.size _
        have HF3 : Hid (∀ wx, Below V3.heap.size V3 wx → (wx.cell? ⟨G3, 0, none⟩ = some (.int .i64 2) ∧ wx.cell? ⟨G3, 1, none⟩ = some (.func (.func 71) #[] #[])) ∧ RCells g a l c n wx) := by
          intro wx hx
          refine ⟨?_, (HQ.out wx (HBV3.out.trans (hx.mono HBV3.out.size))).2⟩
          subst hV hG
          exact ⟨boxed hx 0, boxed hx 1⟩
        have HOV3 : Hid (V3.ownsRow S 5 1 r3 6 (vals (rb a l.toNat c.toNat n.toNat 3))) := by
          subst hV
          exact own_bel HO3.out ((Below.refl _ _).alloc (Nat.le_refl _) _)
        have hf0 := (HF3.out V3 (Below.refl _ _)).1.1
        have hf1 := (HF3.out V3 (Below.refl _ _)).1.2
        obtain ⟨hr0, hr1, hr2, hr3⟩ := (HF3.out V3 (Below.refl _ _)).2
        have HD := Lib.hid (Below.refl V3.heap.size V3).drew
        clear hV hG
        go_cut [7, 8] (fun b x wx => x = .int .i64 1 ∧ Hid (IsB wx b ([])) ∧ Hid (Below V3.heap.size V3 wx))
        case first =>
          go_region_held3 (fun w' => w'.cell? ⟨G3, 0, none⟩ = some (.int .i64 2) ∧ w'.cell? ⟨G3, 1, none⟩ = some (.func (.func 71) #[] #[]) ∧ w'.cell? ⟨g, 0, none⟩ = some (.int .u32 (a : Int)) ∧ w'.cell? ⟨g, 1, none⟩ = some (.int .i64 l) ∧ w'.cell? ⟨g, 2, none⟩ = some (.int .i64 c) ∧ w'.cell? ⟨g, 3, none⟩ = some (.int .i64 n))
            (first | go_keep | exact ⟨(HF3.out _ K2.out).1.1, (HF3.out _ K2.out).1.2, (HF3.out _ K2.out).2.1, (HF3.out _ K2.out).2.2.1, (HF3.out _ K2.out).2.2.2.1, (HF3.out _ K2.out).2.2.2.2⟩ | exact ⟨(HF3.out _ K1.out).1.1, (HF3.out _ K1.out).1.2, (HF3.out _ K1.out).2.1, (HF3.out _ K1.out).2.2.1, (HF3.out _ K1.out).2.2.2.1, (HF3.out _ K1.out).2.2.2.2⟩)
            (first
              | (go_simp; go_at_call 71; refine (C3.out _).mono ?_; rintro e x1 ⟨rfl, hb1⟩; have K1 := Lib.hid (HD.out.trans (hb1.mono HD.out.size)); clear hb1)
              | (go_simp; go_at_call 43; refine (P3.out _).mono ?_; rintro e x2 ⟨v2, rfl, hv2, hb2⟩; have K2 := Lib.hid (K1.out.trans (hb2.mono K1.out.size)); have HV2 := Lib.hid hv2; clear hb2 hv2))
          all_goals
            go_wp2_with fail
            go_meet
            exact ⟨rfl, HV2, K2⟩
        case rest =>
          obtain ⟨rfl, HIB, HBc⟩ := hcut
          have HBX3 := Lib.hid (HBV3.out.trans (HBc.out.mono HBV3.out.size))
          have HOX3 := Lib.hid (own_bel HOV3.out HBc.out)
          generalize wc = y3 at *
          clear HBc HBV3 HF3 hf0 hf1 hr0 hr1 hr2 hr3 HD HOV3 HB3 HO3 C3 P3
          go_wp2_with fail
          go_ret2
          exact ⟨_, rfl, IsB.nil_ _, HS.out.trans (HBX3.out.mono HZ.out)⟩
/-- what Put tells, of any rule -/
theorem rulput_any (a : Nat) (l c n : Int) (w : World) (ha : (a : Int) ≤ 4294967295) :
    Calls Tryd.prog 22 #[.agg #[.int .u32 a, .int .i64 l, .int .i64 c, .int .i64 n]] w fun e w' => ∃ v, e = .returned (.tuple #[v, .int .i64 (putR a l c n).2]) ∧ IsB w' v (putR a l c n).1 ∧ Below w.heap.size w w' := by
  by_cases h1 : 0 ≤ l ∧ l ≤ 255
  · by_cases h2 : 0 ≤ c ∧ c ≤ 255
    · by_cases h3 : 0 ≤ n ∧ n ≤ 65535
      · rw [putR_yes ⟨h1, h2, h3⟩]
        exact (rulput_ok a l c n w ha h1 h2 h3).mono fun e w' ⟨v, h4, h5, h6⟩ => ⟨v, h4, IsB.of_own h5, h6⟩
      · rw [putR_no fun h => h3 h.2.2]
        exact rulput_no3 a l c n w ha h1 h2 (by omega)
    · rw [putR_no fun h => h2 h.2.1]
      exact rulput_no2 a l c n w ha h1 (by omega)
  · rw [putR_no fun h => h1 h.1]
    exact rulput_no1 a l c n w ha (by omega)
end Go.Proofs.YtohggpaffmcfoaaDoor
