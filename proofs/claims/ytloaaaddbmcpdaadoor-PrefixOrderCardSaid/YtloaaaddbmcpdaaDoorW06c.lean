/- The walk of theseuslaw06.PrefixOrder. -/
import Derived.Test.YtloaaaddbmcpdaaDoorL06
namespace Go.Proofs.YtloaaaddbmcpdaaDoor
open Go.RowKit
set_option linter.unusedVariables false
set_option linter.unusedSimpArgs false

theorem mask_q (k : Nat) (w : World) (q : Nat) (hk : (k : Int) ≤ 32) : Calls Tryd.prog 16 #[.int .i64 k] (w.drewN q) fun e w' => e = .returned (.int .u32 (mskN k : Int)) ∧ w' = w.drewN q :=
  (mask_k k (w.drewN q) (by omega)).mono fun e w' ⟨h1, h2⟩ => ⟨h1, h2.symm⟩
set_option maxRecDepth 100000 in
set_option maxHeartbeats 4000000 in
theorem walkPrefixOrder (l0 l1 : List Int) (w : World) (ht : Hid (Tab w)) (w0 : l0.length = 2 ∧ ∀ x ∈ l0, (Lit.int .u32 x).wf = true) (w1 : l1.length = 2 ∧ ∀ x ∈ l1, (Lit.int .u8 x).wf = true) :
    Calls Tryd.prog 7 #[.agg (l0.map (Value.int .u32)).toArray, .agg (l1.map (Value.int .u8)).toArray] w fun e w' => e = .returned (.bool true) ∧ Below w.heap.size w w' := by
  obtain ⟨hlen, hwf⟩ := w0
  obtain ⟨x, y, rfl⟩ : ∃ x y, l0 = [x, y] := by
    match l0, hlen with
    | [x, y], _ => exact ⟨x, y, rfl⟩
  obtain ⟨hlx, hhx⟩ := bounds_u32 (hwf x (by simp))
  obtain ⟨hly, hhy⟩ := bounds_u32 (hwf y (by simp))
  obtain ⟨a, rfl⟩ := Int.eq_ofNat_of_zero_le hlx
  obtain ⟨b, rfl⟩ := Int.eq_ofNat_of_zero_le hly
  clear hwf hlen hlx hly
  have ha : (a : Int) ≤ 4294967295 := by omega
  have hb : (b : Int) ≤ 4294967295 := by omega
  clear hhx hhy
  obtain ⟨hlen, hwf⟩ := w1
  obtain ⟨x, y, rfl⟩ : ∃ x y, l1 = [x, y] := by
    match l1, hlen with
    | [x, y], _ => exact ⟨x, y, rfl⟩
  obtain ⟨hlx, hhx⟩ := bounds_u8 (hwf x (by simp))
  obtain ⟨hly, hhy⟩ := bounds_u8 (hwf y (by simp))
  obtain ⟨i, rfl⟩ := Int.eq_ofNat_of_zero_le hlx
  obtain ⟨j, rfl⟩ := Int.eq_ofNat_of_zero_le hly
  clear hwf hlen hlx hly
  have hi : (i : Int) ≤ 255 := by omega
  have hj : (j : Int) ≤ 255 := by omega
  clear hhx hhy
  obtain ⟨m, hmm⟩ : ∃ m : Nat, ((i : Int) % 33) = (m : Int) := ⟨i % 33, by omega⟩
  have hm : (m : Int) ≤ 32 := by omega
  obtain ⟨k, hkk⟩ : ∃ k : Nat, ((j : Int) % 33) = (k : Int) := ⟨j % 33, by omega⟩
  have hk : (k : Int) ≤ 32 := by omega
  have e1 := and_k a m ha (by omega)
  have e2 := and_k b k hb (by omega)
  have hP : (loN a m : Int) ≤ 4294967295 := by have := lo_le a m; omega
  have hQ : (loN b k : Int) ≤ 4294967295 := by have := lo_le b k; omega
  have HH := Lib.hid (hold_iff (loN a m) m (loN b k))
  rw [lo_lo] at HH
  have K3 := Lib.hid (fun w => holds_k (loN a m) m (loN b k) w hP hQ (by omega))
  generalize loN a m = P at *
  generalize loN b k = Q at *
  have K1 := Lib.hid (fun w => compare_any P Q m k w)
  have K2 := Lib.hid (fun w => compare_any Q P k m w)
  have HM := Lib.hid (fun (w : World) (q : Nat) => mask_q m w q hm)
  have HK := Lib.hid (fun (w : World) (q : Nat) => mask_q k w q hk)
  go_enter Tryd.func7, Tryd.ntmps7
  go_wp2_with fail
  have hb0 : Below w.heap.size w ((w.alloc (.cells #[.int .u32 a, .int .u32 b] 23)).alloc (.cells #[.int .u8 i, .int .u8 j] 41)) := ((Below.refl _ _).alloc (Nat.le_refl _) _).alloc (by simp) _
  have hca : ((w.alloc (.cells #[.int .u32 a, .int .u32 b] 23)).alloc (.cells #[.int .u8 i, .int .u8 j] 41)).cell? ⟨w.heap.size, 0, none⟩ = some (.int .u32 a) := by rw [World.cell?_alloc_lt _ _ _ (by simp), World.cell?_alloc_mark]; rfl
  have hcb : ((w.alloc (.cells #[.int .u32 a, .int .u32 b] 23)).alloc (.cells #[.int .u8 i, .int .u8 j] 41)).cell? ⟨w.heap.size, 1, none⟩ = some (.int .u32 b) := by rw [World.cell?_alloc_lt _ _ _ (by simp), World.cell?_alloc_mark]; rfl
  have hci : ((w.alloc (.cells #[.int .u32 a, .int .u32 b] 23)).alloc (.cells #[.int .u8 i, .int .u8 j] 41)).cell? ⟨w.heap.size + 1, 0, none⟩ = some (.int .u8 i) := by rw [show w.heap.size + 1 = (w.alloc (.cells #[.int .u32 a, .int .u32 b] 23)).heap.size by simp, World.cell?_alloc_mark]; rfl
  have hcj : ((w.alloc (.cells #[.int .u32 a, .int .u32 b] 23)).alloc (.cells #[.int .u8 i, .int .u8 j] 41)).cell? ⟨w.heap.size + 1, 1, none⟩ = some (.int .u8 j) := by rw [show w.heap.size + 1 = (w.alloc (.cells #[.int .u32 a, .int .u32 b] 23)).heap.size by simp, World.cell?_alloc_mark]; rfl
  have hsz : w.heap.size + 1 < ((w.alloc (.cells #[.int .u32 a, .int .u32 b] 23)).alloc (.cells #[.int .u8 i, .int .u8 j] 41)).heap.size := by simp
  have hT := ht.out.bel hb0
  generalize hW : (w.alloc (.cells #[.int .u32 a, .int .u32 b] 23)).alloc (.cells #[.int .u8 i, .int .u8 j] 41) = W at *
  obtain ⟨g, hg⟩ : ∃ g, w.heap.size = g := ⟨_, rfl⟩
  have HQ : Hid (∀ wx, Below W.heap.size W wx → (wx.cell? ⟨g, 0, none⟩ = some (.int .u32 a) ∧ wx.cell? ⟨g, 1, none⟩ = some (.int .u32 b)) ∧ (wx.cell? ⟨g + 1, 0, none⟩ = some (.int .u8 i) ∧ wx.cell? ⟨g + 1, 1, none⟩ = some (.int .u8 j)) ∧ Tab wx) := fun wx hx => by
    subst hg
    exact ⟨⟨by rw [hx.cell (p := ⟨w.heap.size, 0, none⟩) (by show w.heap.size < _; omega)]; exact hca, by rw [hx.cell (p := ⟨w.heap.size, 1, none⟩) (by show w.heap.size < _; omega)]; exact hcb⟩, ⟨by rw [hx.cell (p := ⟨w.heap.size + 1, 0, none⟩) hsz]; exact hci, by rw [hx.cell (p := ⟨w.heap.size + 1, 1, none⟩) hsz]; exact hcj⟩, hT.bel hx⟩
  have HB0 : Hid (Below w.heap.size w W) := hb0
  have HSW : Hid (w.heap.size ≤ W.heap.size) := hb0.size
  have HTW := Lib.hid hT
  rw [hg]
  clear hca hcb hci hcj hsz hb0 hg hT hW
  refine (shown6 W HTW).mono ?_
  rintro e1 w1 ⟨rfl, hb1⟩
  have HB1 := Lib.hid hb1
  clear hb1
  have hq2 := (HQ.out w1 HB1.out).2.1.1
  have hq3 := (HQ.out w1 HB1.out).2.1.2
  have hq0 := (HQ.out w1 HB1.out).1.1
  have hq1 := (HQ.out w1 HB1.out).1.2
  go_wp2_with fail
  go_quiet ((go_at_call 16; with_reducible exact Calls.quiet_of_same (HM.out _ _)))
  clear hq2 hq3 hq0
  go_wp2_with fail
  have HB2 : Hid (Below W.heap.size W (w1.drewN nq)) := drewN_below HB1.out nq
  have hq1' : (w1.drewN nq).cell? ⟨g, 1, none⟩ = some (.int .u32 b) := hq1
  clear HB1 hq1
  generalize w1.drewN nq = w2 at *
  go_quiet ((go_at_call 16; with_reducible exact Calls.quiet_of_same (HK.out _ _)))
  go_wp2_with fail
  have HB3 : Hid (Below w.heap.size w (w2.drewN nq)) := HB0.out.trans (drewN_below (HB2.out.mono HSW.out) nq)
  clear HB2 hq1' HQ HSW HB0
  generalize w2.drewN nq = w3 at *
  rcases Nat.lt_trichotomy P Q with h | h | h
  · rw [cmp_lt _ _ h] at K1
    rw [cmp_gt _ _ h] at K2
    have t1 : ((P : Int) == (Q : Int)) = false := by rw [beq_eq_false_iff_ne]; omega
    clear h HH
    by_cases hmk : m < k
    · have t2 : decide (m < k) = true := by simpa using hmk
      clear hmk
      generalize holdB P m Q = v at *
      cases v
      · skip
        refine (K1.out _).mono ?_
        rintro e1 w4 ⟨rfl, hb⟩
        have HB4 := Lib.hid (HB3.out.trans (hb.mono HB3.out.size))
        clear hb
        go_wp2_with fail
        refine (K2.out _).mono ?_
        rintro e1 w5 ⟨rfl, hb⟩
        have HB5 := Lib.hid (HB4.out.trans (hb.mono HB4.out.size))
        clear hb
        go_wp2_with fail
        refine (K3.out _).mono ?_
        rintro e1 w6 ⟨rfl, hb⟩
        have HB6 := Lib.hid (HB5.out.trans (hb.mono HB5.out.size))
        clear hb
        go_wp2_with fail
        go_ret
        exact ⟨rfl, HB6.out⟩
      · skip
        refine (K1.out _).mono ?_
        rintro e1 w4 ⟨rfl, hb⟩
        have HB4 := Lib.hid (HB3.out.trans (hb.mono HB3.out.size))
        clear hb
        go_wp2_with fail
        refine (K2.out _).mono ?_
        rintro e1 w5 ⟨rfl, hb⟩
        have HB5 := Lib.hid (HB4.out.trans (hb.mono HB4.out.size))
        clear hb
        go_wp2_with fail
        refine (K3.out _).mono ?_
        rintro e1 w6 ⟨rfl, hb⟩
        have HB6 := Lib.hid (HB5.out.trans (hb.mono HB5.out.size))
        clear hb
        go_wp2_with fail
        go_ret
        exact ⟨rfl, HB6.out⟩
    · have t2 : decide (m < k) = false := by simpa using hmk
      clear hmk
      refine (K1.out _).mono ?_
      rintro e1 w4 ⟨rfl, hb⟩
      have HB4 := Lib.hid (HB3.out.trans (hb.mono HB3.out.size))
      clear hb
      go_wp2_with fail
      refine (K2.out _).mono ?_
      rintro e1 w5 ⟨rfl, hb⟩
      have HB5 := Lib.hid (HB4.out.trans (hb.mono HB4.out.size))
      clear hb
      go_wp2_with fail
      go_ret
      exact ⟨rfl, HB5.out⟩
  · subst h
    have t1 : ((P : Int) == (P : Int)) = true := by simp
    have h5 : holdB P m P = true := by rw [HH.out]; have := pw_pos m; omega
    rw [h5] at K3
    clear h5 HH
    rcases Nat.lt_trichotomy m k with h | h | h
    · rw [cmp_eq_lt _ (by omega)] at K1
      rw [cmp_eq_gt _ (by omega)] at K2
      have t2 : decide (m < k) = true := by simpa using h
      have t3 : ((m : Int) == (k : Int)) = false := by rw [beq_eq_false_iff_ne]; omega
      clear h
      refine (K1.out _).mono ?_
      rintro e1 w4 ⟨rfl, hb⟩
      have HB4 := Lib.hid (HB3.out.trans (hb.mono HB3.out.size))
      clear hb
      go_wp2_with fail
      refine (K2.out _).mono ?_
      rintro e1 w5 ⟨rfl, hb⟩
      have HB5 := Lib.hid (HB4.out.trans (hb.mono HB4.out.size))
      clear hb
      go_wp2_with fail
      refine (K3.out _).mono ?_
      rintro e1 w6 ⟨rfl, hb⟩
      have HB6 := Lib.hid (HB5.out.trans (hb.mono HB5.out.size))
      clear hb
      go_wp2_with fail
      go_ret
      exact ⟨rfl, HB6.out⟩
    · subst h
      rw [cmp_same] at K1 K2
      have t2 : decide (m < m) = false := by simp
      have t3 : ((m : Int) == (m : Int)) = true := by simp
      refine (K1.out _).mono ?_
      rintro e1 w4 ⟨rfl, hb⟩
      have HB4 := Lib.hid (HB3.out.trans (hb.mono HB3.out.size))
      clear hb
      go_wp2_with fail
      refine (K2.out _).mono ?_
      rintro e1 w5 ⟨rfl, hb⟩
      have HB5 := Lib.hid (HB4.out.trans (hb.mono HB4.out.size))
      clear hb
      go_wp2_with fail
      go_ret
      exact ⟨rfl, HB5.out⟩
    · rw [cmp_eq_gt _ (by omega)] at K1
      rw [cmp_eq_lt _ (by omega)] at K2
      have t2 : decide (m < k) = false := by simp; omega
      have t3 : ((m : Int) == (k : Int)) = false := by rw [beq_eq_false_iff_ne]; omega
      clear h
      refine (K1.out _).mono ?_
      rintro e1 w4 ⟨rfl, hb⟩
      have HB4 := Lib.hid (HB3.out.trans (hb.mono HB3.out.size))
      clear hb
      go_wp2_with fail
      refine (K2.out _).mono ?_
      rintro e1 w5 ⟨rfl, hb⟩
      have HB5 := Lib.hid (HB4.out.trans (hb.mono HB4.out.size))
      clear hb
      go_wp2_with fail
      go_ret
      exact ⟨rfl, HB5.out⟩
  · rw [cmp_gt _ _ h] at K1
    rw [cmp_lt _ _ h] at K2
    have t1 : ((P : Int) == (Q : Int)) = false := by rw [beq_eq_false_iff_ne]; omega
    have h5 : holdB P m Q = false := by rw [← Bool.not_eq_true, HH.out]; omega
    rw [h5] at K3
    clear h h5 HH
    by_cases hmk : m < k
    · have t2 : decide (m < k) = true := by simpa using hmk
      clear hmk
      refine (K1.out _).mono ?_
      rintro e1 w4 ⟨rfl, hb⟩
      have HB4 := Lib.hid (HB3.out.trans (hb.mono HB3.out.size))
      clear hb
      go_wp2_with fail
      refine (K2.out _).mono ?_
      rintro e1 w5 ⟨rfl, hb⟩
      have HB5 := Lib.hid (HB4.out.trans (hb.mono HB4.out.size))
      clear hb
      go_wp2_with fail
      refine (K3.out _).mono ?_
      rintro e1 w6 ⟨rfl, hb⟩
      have HB6 := Lib.hid (HB5.out.trans (hb.mono HB5.out.size))
      clear hb
      go_wp2_with fail
      go_ret
      exact ⟨rfl, HB6.out⟩
    · have t2 : decide (m < k) = false := by simpa using hmk
      clear hmk
      refine (K1.out _).mono ?_
      rintro e1 w4 ⟨rfl, hb⟩
      have HB4 := Lib.hid (HB3.out.trans (hb.mono HB3.out.size))
      clear hb
      go_wp2_with fail
      refine (K2.out _).mono ?_
      rintro e1 w5 ⟨rfl, hb⟩
      have HB5 := Lib.hid (HB4.out.trans (hb.mono HB4.out.size))
      clear hb
      go_wp2_with fail
      go_ret
      exact ⟨rfl, HB5.out⟩
end Go.Proofs.YtloaaaddbmcpdaaDoor
