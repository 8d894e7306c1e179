/- The walk of theseuslaw06.PrefixNest. -/
import Derived.Test.YtloaaaddbmcpdaaDoorL06
import Derived.Test.YtloaaaddbmcpdaaDoorW06c
namespace Go.Proofs.YtloaaaddbmcpdaaDoor
open Go.RowKit
set_option linter.unusedVariables false
set_option linter.unusedSimpArgs false

set_option maxRecDepth 100000 in
set_option maxHeartbeats 8000000 in
theorem walkPrefixNest (l0 l1 : List Int) (a2 : Int) (w : World) (ht : Hid (Tab w)) (w0 : l0.length = 2 ∧ ∀ x ∈ l0, (Lit.int .u32 x).wf = true) (w1 : l1.length = 2 ∧ ∀ x ∈ l1, (Lit.int .u8 x).wf = true) (w2 : (Lit.int .u32 a2).wf = true) :
    Calls Tryd.prog 5 #[.agg (l0.map (Value.int .u32)).toArray, .agg (l1.map (Value.int .u8)).toArray, .int .u32 a2] w fun e w' => e = .returned (.bool true) ∧ Below w.heap.size w w' := by
  obtain ⟨hl2, hh2⟩ := bounds_u32 w2
  obtain ⟨c, rfl⟩ := Int.eq_ofNat_of_zero_le hl2
  have hc : (c : Int) ≤ 4294967295 := by omega
  clear w2 hl2 hh2
  obtain ⟨hlen, hwf⟩ := w0
  obtain ⟨x, y, rfl⟩ : ∃ x y, l0 = [x, y] := by
    match l0, hlen with
    | [x, y], _ => exact ⟨x, y, rfl⟩
  obtain ⟨hlx, hhx⟩ := bounds_u32 (hwf x (by simp))
  obtain ⟨hly, hhy⟩ := bounds_u32 (hwf y (by simp))
  obtain ⟨a, rfl⟩ := Int.eq_ofNat_of_zero_le hlx
  obtain ⟨b, rfl⟩ := Int.eq_ofNat_of_zero_le hly
  clear hwf hlen hlx hly
  have ha : (a : Int) ≤ 4294967295 := by omega
  have hb : (b : Int) ≤ 4294967295 := by omega
  clear hhx hhy
  obtain ⟨hlen, hwf⟩ := w1
  obtain ⟨x, y, rfl⟩ : ∃ x y, l1 = [x, y] := by
    match l1, hlen with
    | [x, y], _ => exact ⟨x, y, rfl⟩
  obtain ⟨hlx, hhx⟩ := bounds_u8 (hwf x (by simp))
  obtain ⟨hly, hhy⟩ := bounds_u8 (hwf y (by simp))
  obtain ⟨i, rfl⟩ := Int.eq_ofNat_of_zero_le hlx
  obtain ⟨j, rfl⟩ := Int.eq_ofNat_of_zero_le hly
  clear hwf hlen hlx hly
  have hi : (i : Int) ≤ 255 := by omega
  have hj : (j : Int) ≤ 255 := by omega
  clear hhx hhy
  obtain ⟨m, hmm⟩ : ∃ m : Nat, ((i : Int) % 33) = (m : Int) := ⟨i % 33, by omega⟩
  have hm : (m : Int) ≤ 32 := by omega
  obtain ⟨k, hkk⟩ : ∃ k : Nat, ((j : Int) % 33) = (k : Int) := ⟨j % 33, by omega⟩
  have hk : (k : Int) ≤ 32 := by omega
  have e1 := and_k a m ha (by omega)
  have e2 := and_k b k hb (by omega)
  have hP : (loN a m : Int) ≤ 4294967295 := by have := lo_le a m; omega
  have hQ : (loN b k : Int) ≤ 4294967295 := by have := lo_le b k; omega
  have HU := hold_iff (loN a m) m c
  have HV := hold_iff (loN b k) k c
  have hl1 := lo_lo a m
  have hl2 := lo_lo b k
  have hu1 : hiN (loN a m) m + 1 = loN a m + 2 ^ (32 - m) := by have := pw_pos m; unfold hiN; rw [hl1]; omega
  have hu2 : hiN (loN b k) k + 1 = loN b k + 2 ^ (32 - k) := by have := pw_pos k; unfold hiN; rw [hl2]; omega
  have hh1 : hiN (loN a m) m < 4294967296 := hi_lt _ _ (by omega)
  have hh2 : hiN (loN b k) k < 4294967296 := hi_lt _ _ (by omega)
  have hp1 := pw_pos m
  have hp2 := pw_pos k
  have N1 := fun h => nest (loN a m) (loN b k) m k h hl1 hl2
  have N2 := fun h => nest (loN b k) (loN a m) k m h hl2 hl1
  rw [← hu1, ← hu2] at N1 N2
  rw [hl1, ← hu1] at HU
  rw [hl2, ← hu2] at HV
  have K1 := fun w => ends_k (loN a m) m w hP (by omega)
  have K2 := fun w => ends_k (loN b k) k w hQ (by omega)
  rw [hl1] at K1
  rw [hl2] at K2
  have hu3 : loN a m ≤ hiN (loN a m) m := by omega
  have hu4 : loN b k ≤ hiN (loN b k) k := by omega
  have K3 := fun w => holds_k (loN a m) m c w hP hc (by omega)
  have K4 := fun w => holds_k (loN b k) k c w hQ hc (by omega)
  generalize hiN (loN a m) m = Hp at *
  generalize hiN (loN b k) k = Hq at *
  generalize holdB (loN a m) m c = u at *
  generalize holdB (loN b k) k c = v at *
  generalize loN a m = P at *
  generalize loN b k = Q at *
  have N1 : Hid (k ≤ m → Hp + 1 ≤ Q ∨ Hq + 1 ≤ P ∨ Q ≤ P ∧ Hp + 1 ≤ Hq + 1) := N1
  have N2 : Hid (m ≤ k → Hq + 1 ≤ P ∨ Hp + 1 ≤ Q ∨ P ≤ Q ∧ Hq + 1 ≤ Hp + 1) := N2
  replace HU := Lib.hid HU
  replace HV := Lib.hid HV
  replace K1 := Lib.hid K1
  replace K2 := Lib.hid K2
  replace K3 := Lib.hid K3
  replace K4 := Lib.hid K4
  have hHp : (Hp : Int) ≤ 4294967295 := by omega
  have hHq : (Hq : Int) ≤ 4294967295 := by omega
  clear hl1 hl2 hu1 hu2 hh1 hh2 hp1 hp2
  have HM := Lib.hid (fun (w : World) (q : Nat) => mask_q m w q hm)
  have HK := Lib.hid (fun (w : World) (q : Nat) => mask_q k w q hk)
  go_enter Tryd.func5, Tryd.ntmps5
  go_wp2_with fail
  have hb0 : Below w.heap.size w ((w.alloc (.cells #[.int .u32 a, .int .u32 b] 23)).alloc (.cells #[.int .u8 i, .int .u8 j] 41)) := ((Below.refl _ _).alloc (Nat.le_refl _) _).alloc (by simp) _
  have hca : ((w.alloc (.cells #[.int .u32 a, .int .u32 b] 23)).alloc (.cells #[.int .u8 i, .int .u8 j] 41)).cell? ⟨w.heap.size, 0, none⟩ = some (.int .u32 a) := by rw [World.cell?_alloc_lt _ _ _ (by simp), World.cell?_alloc_mark]; rfl
  have hcb : ((w.alloc (.cells #[.int .u32 a, .int .u32 b] 23)).alloc (.cells #[.int .u8 i, .int .u8 j] 41)).cell? ⟨w.heap.size, 1, none⟩ = some (.int .u32 b) := by rw [World.cell?_alloc_lt _ _ _ (by simp), World.cell?_alloc_mark]; rfl
  have hci : ((w.alloc (.cells #[.int .u32 a, .int .u32 b] 23)).alloc (.cells #[.int .u8 i, .int .u8 j] 41)).cell? ⟨w.heap.size + 1, 0, none⟩ = some (.int .u8 i) := by rw [show w.heap.size + 1 = (w.alloc (.cells #[.int .u32 a, .int .u32 b] 23)).heap.size by simp, World.cell?_alloc_mark]; rfl
  have hcj : ((w.alloc (.cells #[.int .u32 a, .int .u32 b] 23)).alloc (.cells #[.int .u8 i, .int .u8 j] 41)).cell? ⟨w.heap.size + 1, 1, none⟩ = some (.int .u8 j) := by rw [show w.heap.size + 1 = (w.alloc (.cells #[.int .u32 a, .int .u32 b] 23)).heap.size by simp, World.cell?_alloc_mark]; rfl
  have hsz : w.heap.size + 1 < ((w.alloc (.cells #[.int .u32 a, .int .u32 b] 23)).alloc (.cells #[.int .u8 i, .int .u8 j] 41)).heap.size := by simp
  have hT := ht.out.bel hb0
  generalize hW : (w.alloc (.cells #[.int .u32 a, .int .u32 b] 23)).alloc (.cells #[.int .u8 i, .int .u8 j] 41) = W at *
  obtain ⟨g, hg⟩ : ∃ g, w.heap.size = g := ⟨_, rfl⟩
  have HQ : Hid (∀ wx, Below W.heap.size W wx → (wx.cell? ⟨g, 0, none⟩ = some (.int .u32 a) ∧ wx.cell? ⟨g, 1, none⟩ = some (.int .u32 b)) ∧ (wx.cell? ⟨g + 1, 0, none⟩ = some (.int .u8 i) ∧ wx.cell? ⟨g + 1, 1, none⟩ = some (.int .u8 j)) ∧ Tab wx) := fun wx hx => by
    subst hg
    exact ⟨⟨by rw [hx.cell (p := ⟨w.heap.size, 0, none⟩) (by show w.heap.size < _; omega)]; exact hca, by rw [hx.cell (p := ⟨w.heap.size, 1, none⟩) (by show w.heap.size < _; omega)]; exact hcb⟩, ⟨by rw [hx.cell (p := ⟨w.heap.size + 1, 0, none⟩) hsz]; exact hci, by rw [hx.cell (p := ⟨w.heap.size + 1, 1, none⟩) hsz]; exact hcj⟩, hT.bel hx⟩
  have HB0 : Hid (Below w.heap.size w W) := hb0
  have HSW : Hid (w.heap.size ≤ W.heap.size) := hb0.size
  have HTW := Lib.hid hT
  rw [hg]
  clear hca hcb hci hcj hsz hb0 hg hT hW
  refine (shown6 W HTW).mono ?_
  rintro e1 w1 ⟨rfl, hb1⟩
  have HB1 := Lib.hid hb1
  clear hb1
  have hq2 := (HQ.out w1 HB1.out).2.1.1
  have hq3 := (HQ.out w1 HB1.out).2.1.2
  have hq0 := (HQ.out w1 HB1.out).1.1
  have hq1 := (HQ.out w1 HB1.out).1.2
  go_wp2_with fail
  go_quiet ((go_at_call 16; with_reducible exact Calls.quiet_of_same (HM.out _ _)))
  clear hq2 hq3 hq0
  go_wp2_with fail
  have HB2 : Hid (Below W.heap.size W (w1.drewN nq)) := drewN_below HB1.out nq
  have hq1' : (w1.drewN nq).cell? ⟨g, 1, none⟩ = some (.int .u32 b) := hq1
  clear HB1 hq1
  generalize w1.drewN nq = w2 at *
  go_quiet ((go_at_call 16; with_reducible exact Calls.quiet_of_same (HK.out _ _)))
  go_wp2_with fail
  have HB3 : Hid (Below w.heap.size w (w2.drewN nq)) := HB0.out.trans (drewN_below (HB2.out.mono HSW.out) nq)
  clear HB2 hq1' HQ HSW HB0
  generalize w2.drewN nq = w3 at *
  refine (K1.out _).mono ?_
  rintro e1 w4 ⟨rfl, hb⟩
  have HB4 := Lib.hid (HB3.out.trans (hb.mono HB3.out.size))
  clear hb
  go_wp2_with fail
  refine (K2.out _).mono ?_
  rintro e1 w5 ⟨rfl, hb⟩
  have HB5 := Lib.hid (HB4.out.trans (hb.mono HB4.out.size))
  clear hb
  clear K1 K2
  rcases (by omega : Hp < Q ∨ (Q ≤ Hp ∧ Hq < P) ∨ (Q ≤ Hp ∧ P ≤ Hq)) with h | h | h
  · have t1 : decide (Hp < Q) = true := by simpa using h
    have t2 : decide (Q ≤ P) = false := by simp; omega
    have t3 : decide (P ≤ Q) = true := by simp; omega
    have t4 : decide (Hq ≤ Hp) = false := by simp; omega
    clear N1 N2
    go_wp2_with fail
    cases u
    · refine (K3.out _).mono ?_
      rintro e1 w6 ⟨rfl, hb⟩
      have HB6 := Lib.hid (HB5.out.trans (hb.mono HB5.out.size))
      clear hb
      go_wp2_with fail
      all_goals go_ret
      all_goals exact ⟨rfl, HB6.out⟩
    · obtain rfl : v = false := by rw [← Bool.not_eq_true]; intro h; have h1 := HU.out.1 rfl; have h2 := HV.out.1 h; omega
      refine (K3.out _).mono ?_
      rintro e1 w6 ⟨rfl, hb⟩
      have HB6 := Lib.hid (HB5.out.trans (hb.mono HB5.out.size))
      clear hb
      go_wp2_with fail
      refine (K4.out _).mono ?_
      rintro e1 w7 ⟨rfl, hb⟩
      have HB7 := Lib.hid (HB6.out.trans (hb.mono HB6.out.size))
      clear hb
      go_wp2_with fail
      all_goals go_ret
      all_goals exact ⟨rfl, HB7.out⟩
  · have t1 : decide (Hp < Q) = false := by simp; omega
    have t1b : decide (Hq < P) = true := by simp; omega
    have t2 : decide (Q ≤ P) = true := by simp; omega
    have t3 : decide (P ≤ Q) = false := by simp; omega
    have t4 : decide (Hp ≤ Hq) = false := by simp; omega
    clear N1 N2
    go_wp2_with fail
    cases u
    · refine (K3.out _).mono ?_
      rintro e1 w6 ⟨rfl, hb⟩
      have HB6 := Lib.hid (HB5.out.trans (hb.mono HB5.out.size))
      clear hb
      go_wp2_with fail
      all_goals go_ret
      all_goals exact ⟨rfl, HB6.out⟩
    · obtain rfl : v = false := by rw [← Bool.not_eq_true]; intro h; have h1 := HU.out.1 rfl; have h2 := HV.out.1 h; omega
      refine (K3.out _).mono ?_
      rintro e1 w6 ⟨rfl, hb⟩
      have HB6 := Lib.hid (HB5.out.trans (hb.mono HB5.out.size))
      clear hb
      go_wp2_with fail
      refine (K4.out _).mono ?_
      rintro e1 w7 ⟨rfl, hb⟩
      have HB7 := Lib.hid (HB6.out.trans (hb.mono HB6.out.size))
      clear hb
      go_wp2_with fail
      all_goals go_ret
      all_goals exact ⟨rfl, HB7.out⟩
  · have t1 : decide (Hp < Q) = false := by simp; omega
    have t1b : decide (Hq < P) = false := by simp; omega
    rcases Nat.lt_trichotomy m k with hmk | hmk | hmk
    · have s1 : decide (m < k) = true := by simp; omega
      have s2 : decide (k < m) = false := by simp; omega
      have hin : P ≤ Q ∧ Hq ≤ Hp := by have := N2.out (by omega); omega
      have t2 : decide (P ≤ Q) = true := by simpa using hin.1
      have t3 : decide (Hq ≤ Hp) = true := by simpa using hin.2
      clear N1 N2 h hmk HU HV
      by_cases h3 : Q ≤ P ∧ Hp ≤ Hq
      · have t4 : decide (Q ≤ P) = true := by simpa using h3.1
        have t5 : decide (Hp ≤ Hq) = true := by simpa using h3.2
        clear h3 hin
        go_wp2_with fail
        cases u
        · refine (K3.out _).mono ?_
          rintro e1 w6 ⟨rfl, hb⟩
          have HB6 := Lib.hid (HB5.out.trans (hb.mono HB5.out.size))
          clear hb
          go_wp2_with fail
          all_goals go_ret
          all_goals exact ⟨rfl, HB6.out⟩
        · cases v
          · refine (K3.out _).mono ?_
            rintro e1 w6 ⟨rfl, hb⟩
            have HB6 := Lib.hid (HB5.out.trans (hb.mono HB5.out.size))
            clear hb
            go_wp2_with fail
            refine (K4.out _).mono ?_
            rintro e1 w7 ⟨rfl, hb⟩
            have HB7 := Lib.hid (HB6.out.trans (hb.mono HB6.out.size))
            clear hb
            go_wp2_with fail
            all_goals go_ret
            all_goals exact ⟨rfl, HB7.out⟩
          · refine (K3.out _).mono ?_
            rintro e1 w6 ⟨rfl, hb⟩
            have HB6 := Lib.hid (HB5.out.trans (hb.mono HB5.out.size))
            clear hb
            go_wp2_with fail
            refine (K4.out _).mono ?_
            rintro e1 w7 ⟨rfl, hb⟩
            have HB7 := Lib.hid (HB6.out.trans (hb.mono HB6.out.size))
            clear hb
            go_wp2_with fail
            all_goals go_ret
            all_goals exact ⟨rfl, HB7.out⟩
      · by_cases h4 : Q ≤ P
        · have t4 : decide (Q ≤ P) = true := by simpa using h4
          have t5 : decide (Hp ≤ Hq) = false := by simp; omega
          clear h3 h4 hin
          go_wp2_with fail
          cases u
          · refine (K3.out _).mono ?_
            rintro e1 w6 ⟨rfl, hb⟩
            have HB6 := Lib.hid (HB5.out.trans (hb.mono HB5.out.size))
            clear hb
            go_wp2_with fail
            all_goals go_ret
            all_goals exact ⟨rfl, HB6.out⟩
          · cases v
            · refine (K3.out _).mono ?_
              rintro e1 w6 ⟨rfl, hb⟩
              have HB6 := Lib.hid (HB5.out.trans (hb.mono HB5.out.size))
              clear hb
              go_wp2_with fail
              refine (K4.out _).mono ?_
              rintro e1 w7 ⟨rfl, hb⟩
              have HB7 := Lib.hid (HB6.out.trans (hb.mono HB6.out.size))
              clear hb
              go_wp2_with fail
              all_goals go_ret
              all_goals exact ⟨rfl, HB7.out⟩
            · refine (K3.out _).mono ?_
              rintro e1 w6 ⟨rfl, hb⟩
              have HB6 := Lib.hid (HB5.out.trans (hb.mono HB5.out.size))
              clear hb
              go_wp2_with fail
              refine (K4.out _).mono ?_
              rintro e1 w7 ⟨rfl, hb⟩
              have HB7 := Lib.hid (HB6.out.trans (hb.mono HB6.out.size))
              clear hb
              go_wp2_with fail
              all_goals go_ret
              all_goals exact ⟨rfl, HB7.out⟩
        · have t4 : decide (Q ≤ P) = false := by simp; omega
          clear h3 h4 hin
          go_wp2_with fail
          cases u
          · refine (K3.out _).mono ?_
            rintro e1 w6 ⟨rfl, hb⟩
            have HB6 := Lib.hid (HB5.out.trans (hb.mono HB5.out.size))
            clear hb
            go_wp2_with fail
            all_goals go_ret
            all_goals exact ⟨rfl, HB6.out⟩
          · cases v
            · refine (K3.out _).mono ?_
              rintro e1 w6 ⟨rfl, hb⟩
              have HB6 := Lib.hid (HB5.out.trans (hb.mono HB5.out.size))
              clear hb
              go_wp2_with fail
              refine (K4.out _).mono ?_
              rintro e1 w7 ⟨rfl, hb⟩
              have HB7 := Lib.hid (HB6.out.trans (hb.mono HB6.out.size))
              clear hb
              go_wp2_with fail
              all_goals go_ret
              all_goals exact ⟨rfl, HB7.out⟩
            · refine (K3.out _).mono ?_
              rintro e1 w6 ⟨rfl, hb⟩
              have HB6 := Lib.hid (HB5.out.trans (hb.mono HB5.out.size))
              clear hb
              go_wp2_with fail
              refine (K4.out _).mono ?_
              rintro e1 w7 ⟨rfl, hb⟩
              have HB7 := Lib.hid (HB6.out.trans (hb.mono HB6.out.size))
              clear hb
              go_wp2_with fail
              all_goals go_ret
              all_goals exact ⟨rfl, HB7.out⟩
    · subst hmk
      have s1 : decide (m < m) = false := by simp
      have hin : P ≤ Q ∧ Hq ≤ Hp := by have := N2.out (by omega); omega
      have hin2 : Q ≤ P ∧ Hp ≤ Hq := by have := N1.out (by omega); omega
      have t2 : decide (P ≤ Q) = true := by simpa using hin.1
      have t3 : decide (Hq ≤ Hp) = true := by simpa using hin.2
      have t4 : decide (Q ≤ P) = true := by simpa using hin2.1
      have t5 : decide (Hp ≤ Hq) = true := by simpa using hin2.2
      clear N1 N2 h hin hin2 HU HV
      go_wp2_with fail
      cases u
      · refine (K3.out _).mono ?_
        rintro e1 w6 ⟨rfl, hb⟩
        have HB6 := Lib.hid (HB5.out.trans (hb.mono HB5.out.size))
        clear hb
        go_wp2_with fail
        all_goals go_ret
        all_goals exact ⟨rfl, HB6.out⟩
      · cases v
        · refine (K3.out _).mono ?_
          rintro e1 w6 ⟨rfl, hb⟩
          have HB6 := Lib.hid (HB5.out.trans (hb.mono HB5.out.size))
          clear hb
          go_wp2_with fail
          refine (K4.out _).mono ?_
          rintro e1 w7 ⟨rfl, hb⟩
          have HB7 := Lib.hid (HB6.out.trans (hb.mono HB6.out.size))
          clear hb
          go_wp2_with fail
          all_goals go_ret
          all_goals exact ⟨rfl, HB7.out⟩
        · refine (K3.out _).mono ?_
          rintro e1 w6 ⟨rfl, hb⟩
          have HB6 := Lib.hid (HB5.out.trans (hb.mono HB5.out.size))
          clear hb
          go_wp2_with fail
          refine (K4.out _).mono ?_
          rintro e1 w7 ⟨rfl, hb⟩
          have HB7 := Lib.hid (HB6.out.trans (hb.mono HB6.out.size))
          clear hb
          go_wp2_with fail
          all_goals go_ret
          all_goals exact ⟨rfl, HB7.out⟩
    · have s1 : decide (m < k) = false := by simp; omega
      have s2 : decide (k < m) = true := by simp; omega
      have hin : Q ≤ P ∧ Hp ≤ Hq := by have := N1.out (by omega); omega
      have t2 : decide (Q ≤ P) = true := by simpa using hin.1
      have t3 : decide (Hp ≤ Hq) = true := by simpa using hin.2
      clear N1 N2 h hmk HU HV
      by_cases h3 : P ≤ Q ∧ Hq ≤ Hp
      · have t4 : decide (P ≤ Q) = true := by simpa using h3.1
        have t5 : decide (Hq ≤ Hp) = true := by simpa using h3.2
        clear h3 hin
        go_wp2_with fail
        cases u
        · refine (K3.out _).mono ?_
          rintro e1 w6 ⟨rfl, hb⟩
          have HB6 := Lib.hid (HB5.out.trans (hb.mono HB5.out.size))
          clear hb
          go_wp2_with fail
          all_goals go_ret
          all_goals exact ⟨rfl, HB6.out⟩
        · cases v
          · refine (K3.out _).mono ?_
            rintro e1 w6 ⟨rfl, hb⟩
            have HB6 := Lib.hid (HB5.out.trans (hb.mono HB5.out.size))
            clear hb
            go_wp2_with fail
            refine (K4.out _).mono ?_
            rintro e1 w7 ⟨rfl, hb⟩
            have HB7 := Lib.hid (HB6.out.trans (hb.mono HB6.out.size))
            clear hb
            go_wp2_with fail
            all_goals go_ret
            all_goals exact ⟨rfl, HB7.out⟩
          · refine (K3.out _).mono ?_
            rintro e1 w6 ⟨rfl, hb⟩
            have HB6 := Lib.hid (HB5.out.trans (hb.mono HB5.out.size))
            clear hb
            go_wp2_with fail
            refine (K4.out _).mono ?_
            rintro e1 w7 ⟨rfl, hb⟩
            have HB7 := Lib.hid (HB6.out.trans (hb.mono HB6.out.size))
            clear hb
            go_wp2_with fail
            all_goals go_ret
            all_goals exact ⟨rfl, HB7.out⟩
      · by_cases h4 : P ≤ Q
        · have t4 : decide (P ≤ Q) = true := by simpa using h4
          have t5 : decide (Hq ≤ Hp) = false := by simp; omega
          clear h3 h4 hin
          go_wp2_with fail
          cases u
          · refine (K3.out _).mono ?_
            rintro e1 w6 ⟨rfl, hb⟩
            have HB6 := Lib.hid (HB5.out.trans (hb.mono HB5.out.size))
            clear hb
            go_wp2_with fail
            all_goals go_ret
            all_goals exact ⟨rfl, HB6.out⟩
          · cases v
            · refine (K3.out _).mono ?_
              rintro e1 w6 ⟨rfl, hb⟩
              have HB6 := Lib.hid (HB5.out.trans (hb.mono HB5.out.size))
              clear hb
              go_wp2_with fail
              refine (K4.out _).mono ?_
              rintro e1 w7 ⟨rfl, hb⟩
              have HB7 := Lib.hid (HB6.out.trans (hb.mono HB6.out.size))
              clear hb
              go_wp2_with fail
              all_goals go_ret
              all_goals exact ⟨rfl, HB7.out⟩
            · refine (K3.out _).mono ?_
              rintro e1 w6 ⟨rfl, hb⟩
              have HB6 := Lib.hid (HB5.out.trans (hb.mono HB5.out.size))
              clear hb
              go_wp2_with fail
              refine (K4.out _).mono ?_
              rintro e1 w7 ⟨rfl, hb⟩
              have HB7 := Lib.hid (HB6.out.trans (hb.mono HB6.out.size))
              clear hb
              go_wp2_with fail
              all_goals go_ret
              all_goals exact ⟨rfl, HB7.out⟩
        · have t4 : decide (P ≤ Q) = false := by simp; omega
          clear h3 h4 hin
          go_wp2_with fail
          cases u
          · refine (K3.out _).mono ?_
            rintro e1 w6 ⟨rfl, hb⟩
            have HB6 := Lib.hid (HB5.out.trans (hb.mono HB5.out.size))
            clear hb
            go_wp2_with fail
            all_goals go_ret
            all_goals exact ⟨rfl, HB6.out⟩
          · cases v
            · refine (K3.out _).mono ?_
              rintro e1 w6 ⟨rfl, hb⟩
              have HB6 := Lib.hid (HB5.out.trans (hb.mono HB5.out.size))
              clear hb
              go_wp2_with fail
              refine (K4.out _).mono ?_
              rintro e1 w7 ⟨rfl, hb⟩
              have HB7 := Lib.hid (HB6.out.trans (hb.mono HB6.out.size))
              clear hb
              go_wp2_with fail
              all_goals go_ret
              all_goals exact ⟨rfl, HB7.out⟩
            · refine (K3.out _).mono ?_
              rintro e1 w6 ⟨rfl, hb⟩
              have HB6 := Lib.hid (HB5.out.trans (hb.mono HB5.out.size))
              clear hb
              go_wp2_with fail
              refine (K4.out _).mono ?_
              rintro e1 w7 ⟨rfl, hb⟩
              have HB7 := Lib.hid (HB6.out.trans (hb.mono HB6.out.size))
              clear hb
              go_wp2_with fail
              all_goals go_ret
              all_goals exact ⟨rfl, HB7.out⟩
end Go.Proofs.YtloaaaddbmcpdaaDoor
