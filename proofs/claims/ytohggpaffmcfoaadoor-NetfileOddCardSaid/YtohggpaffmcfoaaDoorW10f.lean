/- The walk of theseuslaw10.NetfileOdd. -/
import Derived.Test.YtohggpaffmcfoaaDoorLit
import Derived.Test.YtohggpaffmcfoaaDoorL10
import Derived.Test.YtohggpaffmcfoaaDoorMath
import Derived.Test.YtohggpaffmcfoaaDoorRef10b
import Derived.Test.YtohggpaffmcfoaaDoorRef10n
import Derived.Deep.DeepCutAuto
import Derived.Deep.RegionHeld3
namespace Go.Proofs.YtohggpaffmcfoaaDoor
open Go.RowKit
set_option linter.unusedVariables false
set_option linter.unusedSimpArgs false

attribute [local go_sem ↓] sliced_cut
attribute [local go_sem] cutA_zero
set_option maxRecDepth 100000
set_option maxRecDepth 100000 in
set_option maxHeartbeats 8000000 in
theorem walkNetfileOdd (a0 a1 : Int) (w : World) (ht : Hid (Tab w)) (w0 : (Lit.int .u8 a0).wf = true) (w1 : (Lit.int .u8 a1).wf = true) :
    Calls Tryd.prog 8 #[.int .u8 a0, .int .u8 a1] w fun e w' => e = .returned (.bool true) ∧ Below w.heap.size w w' := by
  obtain ⟨hl0, hh0⟩ := bounds_u8 w0
  obtain ⟨a, rfl⟩ := Int.eq_ofNat_of_zero_le hl0
  have ha : (a : Int) ≤ 255 := by omega
  clear w0 hl0 hh0
  obtain ⟨hl1, hh1⟩ := bounds_u8 w1
  obtain ⟨b0, rfl⟩ := Int.eq_ofNat_of_zero_le hl1
  obtain ⟨b, rfl⟩ : ∃ b : UInt8, b0 = b.toNat := ⟨UInt8.ofNat b0, by simp; omega⟩
  clear w1 hl1 hh1
  obtain ⟨k, hk⟩ : ∃ k, a % 9 = k := ⟨_, rfl⟩
  have hk9 : k < 9 := by omega
  have hki : (k : Int) < 9 := by omega
  have hk0 : (0 : Int) ≤ (k : Int) := by omega
  have HTW := ht
  clear ht
  have HB0 := Lib.hid (Below.refl w.heap.size w)
  go_enter Tryd.func8, Tryd.ntmps8
  go_wp2_with fail
  refine (shown10 w HTW).mono ?_
  rintro e1 w1 ⟨rfl, hb⟩
  have HB1 := Lib.hid (HB0.out.trans (hb.mono HB0.out.size))
  replace HTW := Lib.hid (HTW.out.bel hb)
  clear hb HB0
  go_upto_region 3 with fail
  obtain ⟨w2, hW⟩ : ∃ W, w1.alloc (.cells #[.int .u8 10, .int .u8 0, .int .u8 0, .int .u8 0, .int .u8 8, .int .u8 2, .int .u8 0, .int .u8 0] 5) = W := ⟨_, rfl⟩
  obtain ⟨r, hG⟩ : ∃ G, w1.heap.size = G := ⟨_, rfl⟩
  rw [hW, hG]
  have hb : Below w1.heap.size w1 w2 := by subst hW; exact (Below.refl _ _).alloc (Nat.le_refl _) _
  have HB2 := Lib.hid (HB1.out.trans (hb.mono HB1.out.size))
  have Lr : Hid (w.heap.size ≤ r) := by subst hG; exact HB1.out.size
  replace HTW := Lib.hid (HTW.out.bel hb)
  have Kr : Hid (Blk r #[.int .u8 10, .int .u8 0, .int .u8 0, .int .u8 0, .int .u8 8, .int .u8 2, .int .u8 0, .int .u8 0] 5 w2) := by subst hW hG; exact Blk.new _ _ _
  clear hb hW hG HB1
  have V6 := Lib.hid (Kr.out.isB (bs := rulesO) rfl rfl (by decide) (n := 8))
  go_upto_region 4 with (first
    |
    (
      at_builtin
      obtain ⟨x3, hW⟩ : ∃ W, (w2.alloc (.cells #[.int .u8 84, .int .u8 9, .int .u8 1] 5)) = W := ⟨_, rfl⟩
      obtain ⟨o, hG0⟩ : ∃ G, w2.heap.size = G := ⟨_, rfl⟩
      rw [hW, hG0]
      have hbl : Below w2.heap.size w2 x3 := by
        subst hW
        exact ((Below.refl w2.heap.size w2).alloc (by (try simp only [World.size_alloc]); omega) _)
      have ko : Blk o #[.int .u8 84, .int .u8 9, .int .u8 1] 5 x3 := by
        subst hW
        have h := Blk.new w2 #[.int .u8 84, .int .u8 9, .int .u8 1] 5
        simp only [World.size_alloc, hG0] at h
        exact h
      refine wpList_lit rfl (.tmp 19) (.tmp 20) rfl o [84, 9, 1] ko rfl 3 rfl rfl _ _ _ rulesO rfl (V6.out.bel hbl) (by decide) (by decide) 11 rfl ?_
      intro A7 c7 w3 hv hq7 hb0
      have hb : Below w2.heap.size w2 w3 := hbl.trans (hb0.mono (by omega))
      have HB3 := Lib.hid (HB2.out.trans (hb.mono HB2.out.size))
      replace HTW := Lib.hid (HTW.out.bel hb)
      replace Kr := Lib.hid (Kr.out.bel hb)
      replace V6 := Lib.hid (V6.out.bel hb)
      have V7 := Lib.hid hv
      clear hb hb0 hbl hW hv ko hG0 HB2))
  have hc7 : (11 : Int) ≤ (c7 : Int) := by omega
  have V71 : Hid (IsB w3 (.slice (cutA A7 c7 1 1) (11 - 1) (c7 - 1)) (oneO.drop 1)) := IsB.from_ V7.out (by decide)
  go_upto_region 5 with (first
    |
    (
      at_builtin
      obtain ⟨x4, hW⟩ : ∃ W, (((((w3.alloc (.cells #[] 5)).alloc (.cells #[.int .u8 128, .int .u8 (b.toNat : Int)] 5)).alloc (.cells #[.int .u8 130, .int .u8 1, .int .u8 (b.toNat : Int)] 5)).alloc (.cells #[.int .u8 1, .int .u8 84, .int .u8 2, .int .u8 160, .int .u8 1] 5)).alloc (.cells #[.int .u8 1, .int .u8 83] 5)) = W := ⟨_, rfl⟩
      obtain ⟨p0, hG0⟩ : ∃ G, w3.heap.size = G := ⟨_, rfl⟩
      obtain ⟨p1, hG1⟩ : ∃ G, p0 + 1 = G := ⟨_, rfl⟩
      obtain ⟨p2, hG2⟩ : ∃ G, p1 + 1 = G := ⟨_, rfl⟩
      obtain ⟨p3, hG3⟩ : ∃ G, p2 + 1 = G := ⟨_, rfl⟩
      obtain ⟨p4, hG4⟩ : ∃ G, p3 + 1 = G := ⟨_, rfl⟩
      rw [hW, hG0, hG1, hG2, hG3, hG4]
      have hbl : Below w3.heap.size w3 x4 := by
        subst hW
        exact ((((((Below.refl w3.heap.size w3).alloc (by (try simp only [World.size_alloc]); omega) _).alloc (by (try simp only [World.size_alloc]); omega) _).alloc (by (try simp only [World.size_alloc]); omega) _).alloc (by (try simp only [World.size_alloc]); omega) _).alloc (by (try simp only [World.size_alloc]); omega) _)
      have kp0 : Blk p0 #[] 5 x4 := by
        subst hW
        have h := Blk.new w3 #[] 5
        simp only [World.size_alloc, hG0] at h
        exact Blk.al (Blk.al (Blk.al (Blk.al (h) _) _) _) _
      have kp1 : Blk p1 #[.int .u8 128, .int .u8 (b.toNat : Int)] 5 x4 := by
        subst hW
        have h := Blk.new (w3.alloc (.cells #[] 5)) #[.int .u8 128, .int .u8 (b.toNat : Int)] 5
        simp only [World.size_alloc, hG0, hG1] at h
        exact Blk.al (Blk.al (Blk.al (h) _) _) _
      have kp2 : Blk p2 #[.int .u8 130, .int .u8 1, .int .u8 (b.toNat : Int)] 5 x4 := by
        subst hW
        have h := Blk.new ((w3.alloc (.cells #[] 5)).alloc (.cells #[.int .u8 128, .int .u8 (b.toNat : Int)] 5)) #[.int .u8 130, .int .u8 1, .int .u8 (b.toNat : Int)] 5
        simp only [World.size_alloc, hG0, hG1, hG2] at h
        exact Blk.al (Blk.al (h) _) _
      have kp3 : Blk p3 #[.int .u8 1, .int .u8 84, .int .u8 2, .int .u8 160, .int .u8 1] 5 x4 := by
        subst hW
        have h := Blk.new (((w3.alloc (.cells #[] 5)).alloc (.cells #[.int .u8 128, .int .u8 (b.toNat : Int)] 5)).alloc (.cells #[.int .u8 130, .int .u8 1, .int .u8 (b.toNat : Int)] 5)) #[.int .u8 1, .int .u8 84, .int .u8 2, .int .u8 160, .int .u8 1] 5
        simp only [World.size_alloc, hG0, hG1, hG2, hG3] at h
        exact Blk.al (h) _
      have kp4 : Blk p4 #[.int .u8 1, .int .u8 83] 5 x4 := by
        subst hW
        have h := Blk.new ((((w3.alloc (.cells #[] 5)).alloc (.cells #[.int .u8 128, .int .u8 (b.toNat : Int)] 5)).alloc (.cells #[.int .u8 130, .int .u8 1, .int .u8 (b.toNat : Int)] 5)).alloc (.cells #[.int .u8 1, .int .u8 84, .int .u8 2, .int .u8 160, .int .u8 1] 5)) #[.int .u8 1, .int .u8 83] 5
        simp only [World.size_alloc, hG0, hG1, hG2, hG3, hG4] at h
        exact h
      refine wpList_lit rfl (.tmp 28) (.tmp 30) rfl p4 [1, 83] kp4 rfl 2 rfl rfl _ _ _ (oneO.drop 1) rfl (V71.out.bel hbl) (by decide) (by decide) 12 rfl ?_
      intro A4 c4 w4 hv hq4 hb0
      have hb : Below w3.heap.size w3 w4 := hbl.trans (hb0.mono (by omega))
      have HB4 := Lib.hid (HB3.out.trans (hb.mono HB3.out.size))
      replace HTW := Lib.hid (HTW.out.bel hb)
      replace Kr := Lib.hid (Kr.out.bel hb)
      replace V6 := Lib.hid (V6.out.bel hb)
      replace V7 := Lib.hid (V7.out.bel hb)
      replace V71 := Lib.hid (V71.out.bel hb)
      have Kp0 : Hid (Blk p0 #[] 5 w4) := (hb0.block p0 (by omega)).trans kp0
      have Kp1 : Hid (Blk p1 #[.int .u8 128, .int .u8 (b.toNat : Int)] 5 w4) := (hb0.block p1 (by omega)).trans kp1
      have Kp2 : Hid (Blk p2 #[.int .u8 130, .int .u8 1, .int .u8 (b.toNat : Int)] 5 w4) := (hb0.block p2 (by omega)).trans kp2
      have Kp3 : Hid (Blk p3 #[.int .u8 1, .int .u8 84, .int .u8 2, .int .u8 160, .int .u8 1] 5 w4) := (hb0.block p3 (by omega)).trans kp3
      have W4 := Lib.hid hv
      clear hb hb0 hbl hW hv kp0 kp1 kp2 kp3 kp4 hG0 hG1 hG2 hG3 hG4 HB3)
    |
    (
      at_builtin
      obtain ⟨x5, hW⟩ : ∃ W, ((w4.alloc (.cells #[.int .u8 1, .int .u8 84, .int .u8 1, .int .u8 1] 5)).alloc (.cells #[.int .u8 1, .int .u8 84, .int .u8 9, .int .u8 0] 5)) = W := ⟨_, rfl⟩
      obtain ⟨p5, hG0⟩ : ∃ G, w4.heap.size = G := ⟨_, rfl⟩
      obtain ⟨p6, hG1⟩ : ∃ G, p5 + 1 = G := ⟨_, rfl⟩
      rw [hW, hG0, hG1]
      have hbl : Below w4.heap.size w4 x5 := by
        subst hW
        exact (((Below.refl w4.heap.size w4).alloc (by (try simp only [World.size_alloc]); omega) _).alloc (by (try simp only [World.size_alloc]); omega) _)
      have kp5 : Blk p5 #[.int .u8 1, .int .u8 84, .int .u8 1, .int .u8 1] 5 x5 := by
        subst hW
        have h := Blk.new w4 #[.int .u8 1, .int .u8 84, .int .u8 1, .int .u8 1] 5
        simp only [World.size_alloc, hG0] at h
        exact Blk.al (h) _
      have kp6 : Blk p6 #[.int .u8 1, .int .u8 84, .int .u8 9, .int .u8 0] 5 x5 := by
        subst hW
        have h := Blk.new (w4.alloc (.cells #[.int .u8 1, .int .u8 84, .int .u8 1, .int .u8 1] 5)) #[.int .u8 1, .int .u8 84, .int .u8 9, .int .u8 0] 5
        simp only [World.size_alloc, hG0, hG1] at h
        exact h
      refine wpList_lit rfl (.tmp 33) (.tmp 34) rfl p6 [1, 84, 9, 0] kp6 rfl 4 rfl rfl _ _ _ rulesO rfl (V6.out.bel hbl) (by decide) (by decide) 12 rfl ?_
      intro A6 c6 w5 hv hq6 hb0
      have hb : Below w4.heap.size w4 w5 := hbl.trans (hb0.mono (by omega))
      have HB5 := Lib.hid (HB4.out.trans (hb.mono HB4.out.size))
      replace HTW := Lib.hid (HTW.out.bel hb)
      replace Kr := Lib.hid (Kr.out.bel hb)
      replace V6 := Lib.hid (V6.out.bel hb)
      replace V7 := Lib.hid (V7.out.bel hb)
      replace V71 := Lib.hid (V71.out.bel hb)
      replace Kp0 := Lib.hid (Kp0.out.bel hb)
      replace Kp1 := Lib.hid (Kp1.out.bel hb)
      replace Kp2 := Lib.hid (Kp2.out.bel hb)
      replace Kp3 := Lib.hid (Kp3.out.bel hb)
      replace W4 := Lib.hid (W4.out.bel hb)
      have Kp5 : Hid (Blk p5 #[.int .u8 1, .int .u8 84, .int .u8 1, .int .u8 1] 5 w5) := (hb0.block p5 (by omega)).trans kp5
      have W6 := Lib.hid hv
      clear hb hb0 hbl hW hv kp5 kp6 hG0 hG1 HB4)
    |
    (
      at_builtin
      obtain ⟨x6, hW⟩ : ∃ W, (w5.alloc (.cells #[.int .u8 2] 5)) = W := ⟨_, rfl⟩
      obtain ⟨p7, hG0⟩ : ∃ G, w5.heap.size = G := ⟨_, rfl⟩
      rw [hW, hG0]
      have hbl : Below w5.heap.size w5 x6 := by
        subst hW
        exact ((Below.refl w5.heap.size w5).alloc (by (try simp only [World.size_alloc]); omega) _)
      have kp7 : Blk p7 #[.int .u8 2] 5 x6 := by
        subst hW
        have h := Blk.new w5 #[.int .u8 2] 5
        simp only [World.size_alloc, hG0] at h
        exact h
      refine wpList_lit rfl (.tmp 36) (.tmp 37) rfl p7 [2] kp7 rfl 1 rfl rfl _ _ _ oneO rfl (V7.out.bel hbl) (by decide) (by decide) 12 rfl ?_
      intro A9 c9 w6 hv hq9 hb0
      have hb : Below w5.heap.size w5 w6 := hbl.trans (hb0.mono (by omega))
      have HB6 := Lib.hid (HB5.out.trans (hb.mono HB5.out.size))
      replace HTW := Lib.hid (HTW.out.bel hb)
      replace Kr := Lib.hid (Kr.out.bel hb)
      replace V6 := Lib.hid (V6.out.bel hb)
      replace V7 := Lib.hid (V7.out.bel hb)
      replace V71 := Lib.hid (V71.out.bel hb)
      replace Kp0 := Lib.hid (Kp0.out.bel hb)
      replace Kp1 := Lib.hid (Kp1.out.bel hb)
      replace Kp2 := Lib.hid (Kp2.out.bel hb)
      replace Kp3 := Lib.hid (Kp3.out.bel hb)
      replace W4 := Lib.hid (W4.out.bel hb)
      replace Kp5 := Lib.hid (Kp5.out.bel hb)
      replace W6 := Lib.hid (W6.out.bel hb)
      have W7 := Lib.hid hv
      clear hb hb0 hbl hW hv kp7 hG0 HB5))
  obtain ⟨w7, hW⟩ : ∃ W, ((w6.alloc (.cells #[.int .u8 1, .int .u8 84, .int .u8 9, .int .u8 1, .int .u8 10, .int .u8 0, .int .u8 0, .int .u8 1, .int .u8 8, .int .u8 2, .int .u8 0, .int .u8 0] 5)).alloc (.cells #[.slice (some ⟨p0, 0, none⟩) 0 0, .slice (some ⟨p1, 0, none⟩) 2 2, .slice (some ⟨p2, 0, none⟩) 3 3, .slice (some ⟨p3, 0, none⟩) 5 5, .slice A4 12 c4, .slice (some ⟨p5, 0, none⟩) 4 4, .slice A6 12 c6, .slice A9 12 c9, .slice (some ⟨w6.heap.size, 0, none⟩) 12 12] 49)) = W := ⟨_, rfl⟩
  obtain ⟨p8, hG0⟩ : ∃ G, w6.heap.size = G := ⟨_, rfl⟩
  obtain ⟨R, hG1⟩ : ∃ G, p8 + 1 = G := ⟨_, rfl⟩
  rw [hW, hG0, hG1]
  have hb : Below w6.heap.size w6 w7 := by
    subst hW
    exact (((Below.refl w6.heap.size w6).alloc (by (try simp only [World.size_alloc]); omega) _).alloc (by (try simp only [World.size_alloc]); omega) _)
  have HB7 := Lib.hid (HB6.out.trans (hb.mono HB6.out.size))
  replace HTW := Lib.hid (HTW.out.bel hb)
  replace Kr := Lib.hid (Kr.out.bel hb)
  replace V6 := Lib.hid (V6.out.bel hb)
  replace V7 := Lib.hid (V7.out.bel hb)
  replace V71 := Lib.hid (V71.out.bel hb)
  replace Kp0 := Lib.hid (Kp0.out.bel hb)
  replace Kp1 := Lib.hid (Kp1.out.bel hb)
  replace Kp2 := Lib.hid (Kp2.out.bel hb)
  replace Kp3 := Lib.hid (Kp3.out.bel hb)
  replace W4 := Lib.hid (W4.out.bel hb)
  replace Kp5 := Lib.hid (Kp5.out.bel hb)
  replace W6 := Lib.hid (W6.out.bel hb)
  replace W7 := Lib.hid (W7.out.bel hb)
  have Kp8 : Hid (Blk p8 #[.int .u8 1, .int .u8 84, .int .u8 9, .int .u8 1, .int .u8 10, .int .u8 0, .int .u8 0, .int .u8 1, .int .u8 8, .int .u8 2, .int .u8 0, .int .u8 0] 5 w7) := by
    subst hW
    (try simp only [hG0])
    have h := Blk.new w6 #[.int .u8 1, .int .u8 84, .int .u8 9, .int .u8 1, .int .u8 10, .int .u8 0, .int .u8 0, .int .u8 1, .int .u8 8, .int .u8 2, .int .u8 0, .int .u8 0] 5
    simp only [World.size_alloc, hG0] at h
    exact Blk.al (h) _
  have KR : Hid (Blk R #[.slice (some ⟨p0, 0, none⟩) 0 0, .slice (some ⟨p1, 0, none⟩) 2 2, .slice (some ⟨p2, 0, none⟩) 3 3, .slice (some ⟨p3, 0, none⟩) 5 5, .slice A4 12 c4, .slice (some ⟨p5, 0, none⟩) 4 4, .slice A6 12 c6, .slice A9 12 c9, .slice (some ⟨p8, 0, none⟩) 12 12] 49 w7) := by
    subst hW
    (try simp only [hG0])
    have h := Blk.new (w6.alloc (.cells #[.int .u8 1, .int .u8 84, .int .u8 9, .int .u8 1, .int .u8 10, .int .u8 0, .int .u8 0, .int .u8 1, .int .u8 8, .int .u8 2, .int .u8 0, .int .u8 0] 5)) #[.slice (some ⟨p0, 0, none⟩) 0 0, .slice (some ⟨p1, 0, none⟩) 2 2, .slice (some ⟨p2, 0, none⟩) 3 3, .slice (some ⟨p3, 0, none⟩) 5 5, .slice A4 12 c4, .slice (some ⟨p5, 0, none⟩) 4 4, .slice A6 12 c6, .slice A9 12 c9, .slice (some ⟨w6.heap.size, 0, none⟩) 12 12] 49
    simp only [World.size_alloc, hG0, hG1] at h
    exact h
  clear hb hW hG0 hG1 HB6
  go_upto_region 6 with fail
  obtain ⟨w8, hW⟩ : ∃ W, w7.alloc (.cells #[.int .i64 2, .int .i64 3, .int .i64 12, .int .i64 12, .int .i64 3, .int .i64 2, .int .i64 4, .int .i64 2, .int .i64 8] 50) = W := ⟨_, rfl⟩
  obtain ⟨Q, hG⟩ : ∃ G, w7.heap.size = G := ⟨_, rfl⟩
  rw [hW, hG]
  have hb : Below w7.heap.size w7 w8 := by subst hW; exact (Below.refl _ _).alloc (Nat.le_refl _) _
  have HB8 := Lib.hid (HB7.out.trans (hb.mono HB7.out.size))
  have LQ : Hid (w.heap.size ≤ Q) := by subst hG; exact HB7.out.size
  have NrQ : Hid (r < Q) := by subst hG; exact Kr.out.size
  have Np0Q : Hid (p0 < Q) := by subst hG; exact Kp0.out.size
  have Np1Q : Hid (p1 < Q) := by subst hG; exact Kp1.out.size
  have Np2Q : Hid (p2 < Q) := by subst hG; exact Kp2.out.size
  have Np3Q : Hid (p3 < Q) := by subst hG; exact Kp3.out.size
  have Np5Q : Hid (p5 < Q) := by subst hG; exact Kp5.out.size
  have Np8Q : Hid (p8 < Q) := by subst hG; exact Kp8.out.size
  have NRQ : Hid (R < Q) := by subst hG; exact KR.out.size
  replace HTW := Lib.hid (HTW.out.bel hb)
  replace Kr := Lib.hid (Kr.out.bel hb)
  replace V6 := Lib.hid (V6.out.bel hb)
  replace V7 := Lib.hid (V7.out.bel hb)
  replace V71 := Lib.hid (V71.out.bel hb)
  replace Kp0 := Lib.hid (Kp0.out.bel hb)
  replace Kp1 := Lib.hid (Kp1.out.bel hb)
  replace Kp2 := Lib.hid (Kp2.out.bel hb)
  replace Kp3 := Lib.hid (Kp3.out.bel hb)
  replace W4 := Lib.hid (W4.out.bel hb)
  replace Kp5 := Lib.hid (Kp5.out.bel hb)
  replace W6 := Lib.hid (W6.out.bel hb)
  replace W7 := Lib.hid (W7.out.bel hb)
  replace Kp8 := Lib.hid (Kp8.out.bel hb)
  replace KR := Lib.hid (KR.out.bel hb)
  have KQ : Hid (Blk Q #[.int .i64 2, .int .i64 3, .int .i64 12, .int .i64 12, .int .i64 3, .int .i64 2, .int .i64 4, .int .i64 2, .int .i64 8] 50 w8) := by subst hW hG; exact Blk.new _ _ _
  clear hb hW hG HB7
  have HRK : Hid (∃ A c n, w8.cell? ⟨R, k, none⟩ = some (.slice A n c) ∧ IsB w8 (.slice A n c) (oddB b k)) := by
    show _
    match k, hk9 with
    | 0, _ => exact ⟨_, _, _, KR.out.cell 0 rfl, Kp0.out.isB rfl rfl (by decide)⟩
    | 1, _ => exact ⟨_, _, _, KR.out.cell 1 rfl, Kp1.out.isB rfl rfl (by decide)⟩
    | 2, _ => exact ⟨_, _, _, KR.out.cell 2 rfl, Kp2.out.isB rfl rfl (by decide)⟩
    | 3, _ => exact ⟨_, _, _, KR.out.cell 3 rfl, Kp3.out.isB rfl rfl (by decide)⟩
    | 4, _ => exact ⟨_, _, _, KR.out.cell 4 rfl, W4.out⟩
    | 5, _ => exact ⟨_, _, _, KR.out.cell 5 rfl, Kp5.out.isB rfl rfl (by decide)⟩
    | 6, _ => exact ⟨_, _, _, KR.out.cell 6 rfl, W6.out⟩
    | 7, _ => exact ⟨_, _, _, KR.out.cell 7 rfl, W7.out⟩
    | 8, _ => exact ⟨_, _, _, KR.out.cell 8 rfl, Kp8.out.isB rfl rfl (by decide)⟩
  have HQK : Hid (∀ wx, Blk Q #[.int .i64 2, .int .i64 3, .int .i64 12, .int .i64 12, .int .i64 3, .int .i64 2, .int .i64 4, .int .i64 2, .int .i64 8] 50 wx → wx.cell? ⟨Q, k, none⟩ = some (.int .i64 (oddE k))) := fun wx h => by
    match k, hk9 with
    | 0, _ => exact h.cell 0 rfl
    | 1, _ => exact h.cell 1 rfl
    | 2, _ => exact h.cell 2 rfl
    | 3, _ => exact h.cell 3 rfl
    | 4, _ => exact h.cell 4 rfl
    | 5, _ => exact h.cell 5 rfl
    | 6, _ => exact h.cell 6 rfl
    | 7, _ => exact h.cell 7 rfl
    | 8, _ => exact h.cell 8 rfl
  clear Kr V6 V71 Kp0 Kp1 Kp2 Kp3 W4 Kp5 W6 W7 Kp8 KR
  obtain ⟨AR, cR, nR, hcell, hvr⟩ := HRK.out
  have hnR : nR ≤ 12 := by
    have h1 := hvr.len.1
    have h2 := odd_len b k
    omega
  have VR := Lib.hid hvr
  clear hvr HRK
  go_upto_region 7 with fail
  have hka : (a : Int) % 9 = (k : Int) := by omega
  rw [hka]
  clear hka hk
  obtain ⟨F1, hF1⟩ : ∃ F, frameN 1179206193 (oddB b k) = F := ⟨_, rfl⟩
  obtain ⟨F2, hF2⟩ : ∃ F, frameN 1179206193 ([1] ++ oneO) = F := ⟨_, rfl⟩
  have hT1 := odd_take b k hk9
  have hT2 := one_take
  have hT3 := one_more b
  have hl1 : F1.length ≤ 20 := by rw [← hF1, frameN_length]; have := odd_len b k; omega
  have hl2 : F2.length = 20 := by rw [← hF2, frameN_length]; rfl
  change takeNf (frameN 1179206193 (oddB b k)) = _ at hT1
  change takeNf (frameN 1179206193 ([1] ++ oneO)) = _ at hT2
  change (takeNf (frameN 1179206193 ([1] ++ oneO) ++ [b])).2 ≠ 0 at hT3
  rw [hF1] at hT1
  rw [hF2] at hT2 hT3
  have C1 := Lib.hid (fun v w hv ht => nftake_any v F1 w hv (by omega) ht)
  have C2 := Lib.hid (fun v w hv ht => nftake_any v F2 w hv (by omega) ht)
  have C3 := Lib.hid (fun v w hv ht => nftake_any v (F2 ++ [b]) w hv (by rw [List.length_append]; simp; omega) ht)
  rw [hT1] at C1
  rw [hT2] at C2
  obtain ⟨e3, he3⟩ : ∃ e, (takeNf (F2 ++ [b])).2 = e := ⟨_, rfl⟩
  obtain ⟨Q3, hQ3⟩ : ∃ q, (takeNf (F2 ++ [b])).1 = q := ⟨_, rfl⟩
  rw [he3, hQ3] at C3
  rw [he3] at hT3
  simp only at C1 C2
  have t3 : (e3 != 0) = true := by simp [bne_iff_ne, hT3]
  have tE : (oddE k == oddE k) = true := by simp
  have HF1 := Lib.hid hF1
  have HF2 := Lib.hid hF2
  have HL2 := Lib.hid hl2
  have hlo := odd_len b k
  clear hF1 hF2 hT1 hT2 hT3 hl1 hl2 he3 hQ3 hk9
  go_wp2_with fail
  refine (fput_any 1179206193 (.slice AR nR cR) (oddB b k) w8 (by decide) VR.out (by omega) HTW).mono ?_
  rintro e1 w9 ⟨fv, rfl, ho, hb⟩
  have HB9 := Lib.hid (HB8.out.trans (hb.mono HB8.out.size))
  replace HTW := Lib.hid (HTW.out.bel hb)
  replace V7 := Lib.hid (V7.out.bel hb)
  replace KQ := Lib.hid (KQ.out.bel hb)
  replace VR := Lib.hid (VR.out.bel hb)
  have VF := Lib.hid (fput_isb ho)
  clear hb HB8
  rw [HF1.out] at VF
  clear ho hcell
  clear VR
  go_wp2_with fail
  refine (C1.out _ w9 VF.out HTW).mono ?_
  rintro e1 w10 ⟨xv, rfl, hv, hb⟩
  have HB10 := Lib.hid (HB9.out.trans (hb.mono HB9.out.size))
  replace HTW := Lib.hid (HTW.out.bel hb)
  replace V7 := Lib.hid (V7.out.bel hb)
  replace KQ := Lib.hid (KQ.out.bel hb)
  replace VF := Lib.hid (VF.out.bel hb)
  have VX := Lib.hid (hv)
  clear hb HB9
  clear hv C1
  obtain ⟨AX, cX, rfl, _, _, _⟩ := VX.out.slice
  simp only [List.length_nil] at VX ⊢
  clear VF
  go_upto_region 8 with fail
  obtain ⟨w11, hW⟩ : ∃ W, w10.alloc (.cells #[.slice AX 0 cX] 24) = W := ⟨_, rfl⟩
  obtain ⟨M1, hG⟩ : ∃ G, w10.heap.size = G := ⟨_, rfl⟩
  rw [hW, hG]
  have hb : Below w10.heap.size w10 w11 := by subst hW; exact (Below.refl _ _).alloc (Nat.le_refl _) _
  have HB11 := Lib.hid (HB10.out.trans (hb.mono HB10.out.size))
  have LM1 : Hid (w.heap.size ≤ M1) := by subst hG; exact HB10.out.size
  have NQM1 : Hid (Q < M1) := by subst hG; exact KQ.out.size
  replace HTW := Lib.hid (HTW.out.bel hb)
  replace V7 := Lib.hid (V7.out.bel hb)
  replace KQ := Lib.hid (KQ.out.bel hb)
  replace VX := Lib.hid (VX.out.bel hb)
  have KM1 : Hid (Blk M1 #[.slice AX 0 cX] 24 w11) := by subst hW hG; exact Blk.new _ _ _
  clear hb hW hG HB10
  clear VX
  go_wp2_with (first
    |
    (
      at_builtin
      obtain ⟨x12, hW⟩ : ∃ W, (w11.alloc (.cells #[.int .u8 1] 5)) = W := ⟨_, rfl⟩
      obtain ⟨q1, hG0⟩ : ∃ G, w11.heap.size = G := ⟨_, rfl⟩
      rw [hW, hG0]
      have hbl : Below w11.heap.size w11 x12 := by
        subst hW
        exact ((Below.refl w11.heap.size w11).alloc (by (try simp only [World.size_alloc]); omega) _)
      have kq1 : Blk q1 #[.int .u8 1] 5 x12 := by
        subst hW
        have h := Blk.new w11 #[.int .u8 1] 5
        simp only [World.size_alloc, hG0] at h
        exact h
      refine wpList_lit rfl (.tmp 54) (.tmp 55) rfl q1 [1] kq1 rfl 1 rfl rfl _ _ _ oneO rfl (V7.out.bel hbl) (by decide) (by decide) 12 rfl ?_
      intro Ao co w12 hv hqo hb0
      have hb : Below w11.heap.size w11 w12 := hbl.trans (hb0.mono (by omega))
      have HB12 := Lib.hid (HB11.out.trans (hb.mono HB11.out.size))
      replace HTW := Lib.hid (HTW.out.bel hb)
      replace V7 := Lib.hid (V7.out.bel hb)
      replace KQ := Lib.hid (KQ.out.bel hb)
      replace KM1 := Lib.hid (KM1.out.bel hb)
      have VO := Lib.hid hv
      clear hb hb0 hbl hW hv kq1 hG0 HB11))
  refine (fput_any 1179206193 (.slice Ao 12 co) ([1] ++ oneO) w12 (by decide) VO.out (by decide) HTW).mono ?_
  rintro e1 w13 ⟨fw, rfl, ho, hb⟩
  have HB13 := Lib.hid (HB12.out.trans (hb.mono HB12.out.size))
  replace HTW := Lib.hid (HTW.out.bel hb)
  replace V7 := Lib.hid (V7.out.bel hb)
  replace KQ := Lib.hid (KQ.out.bel hb)
  replace KM1 := Lib.hid (KM1.out.bel hb)
  replace VO := Lib.hid (VO.out.bel hb)
  have VF := Lib.hid (fput_isb ho)
  clear hb HB12
  rw [HF2.out] at VF
  clear ho
  clear VO
  go_wp2_with fail
  refine (C2.out _ w13 VF.out HTW).mono ?_
  rintro e1 w14 ⟨yv, rfl, hv, hb⟩
  have HB14 := Lib.hid (HB13.out.trans (hb.mono HB13.out.size))
  replace HTW := Lib.hid (HTW.out.bel hb)
  replace V7 := Lib.hid (V7.out.bel hb)
  replace KQ := Lib.hid (KQ.out.bel hb)
  replace KM1 := Lib.hid (KM1.out.bel hb)
  replace VF := Lib.hid (VF.out.bel hb)
  have VY := Lib.hid (hv)
  clear hb HB13
  clear hv C2
  obtain ⟨AY, cY, rfl, _, _, _⟩ := VY.out.slice
  simp only [List.length_cons, List.length_nil, Nat.zero_add] at VY ⊢
  clear VF
  go_upto_region 9 with fail
  obtain ⟨w15, hW⟩ : ∃ W, w14.alloc (.cells #[.slice AY 1 cY] 24) = W := ⟨_, rfl⟩
  obtain ⟨M2, hG⟩ : ∃ G, w14.heap.size = G := ⟨_, rfl⟩
  rw [hW, hG]
  have hb : Below w14.heap.size w14 w15 := by subst hW; exact (Below.refl _ _).alloc (Nat.le_refl _) _
  have HB15 := Lib.hid (HB14.out.trans (hb.mono HB14.out.size))
  have LM2 : Hid (w.heap.size ≤ M2) := by subst hG; exact HB14.out.size
  have NQM2 : Hid (Q < M2) := by subst hG; exact KQ.out.size
  have NM1M2 : Hid (M1 < M2) := by subst hG; exact KM1.out.size
  replace HTW := Lib.hid (HTW.out.bel hb)
  replace V7 := Lib.hid (V7.out.bel hb)
  replace KQ := Lib.hid (KQ.out.bel hb)
  replace KM1 := Lib.hid (KM1.out.bel hb)
  replace VY := Lib.hid (VY.out.bel hb)
  have KM2 : Hid (Blk M2 #[.slice AY 1 cY] 24 w15) := by subst hW hG; exact Blk.new _ _ _
  clear hb hW hG HB14
  go_wp2_with (first
    |
    (
      at_builtin
      obtain ⟨x16, hW⟩ : ∃ W, (w15.alloc (.cells #[.int .u8 1] 5)) = W := ⟨_, rfl⟩
      obtain ⟨q2, hG0⟩ : ∃ G, w15.heap.size = G := ⟨_, rfl⟩
      rw [hW, hG0]
      have hbl : Below w15.heap.size w15 x16 := by
        subst hW
        exact ((Below.refl w15.heap.size w15).alloc (by (try simp only [World.size_alloc]); omega) _)
      have kq2 : Blk q2 #[.int .u8 1] 5 x16 := by
        subst hW
        have h := Blk.new w15 #[.int .u8 1] 5
        simp only [World.size_alloc, hG0] at h
        exact h
      refine wpList_lit rfl (.tmp 62) (.tmp 63) rfl q2 [1] kq2 rfl 1 rfl rfl _ _ _ oneO rfl (V7.out.bel hbl) (by decide) (by decide) 12 rfl ?_
      intro Ap cp w16 hv hqp hb0
      have hb : Below w15.heap.size w15 w16 := hbl.trans (hb0.mono (by omega))
      have HB16 := Lib.hid (HB15.out.trans (hb.mono HB15.out.size))
      replace HTW := Lib.hid (HTW.out.bel hb)
      replace V7 := Lib.hid (V7.out.bel hb)
      replace KQ := Lib.hid (KQ.out.bel hb)
      replace KM1 := Lib.hid (KM1.out.bel hb)
      replace VY := Lib.hid (VY.out.bel hb)
      replace KM2 := Lib.hid (KM2.out.bel hb)
      have VO := Lib.hid hv
      clear hb hb0 hbl hW hv kq2 hG0 HB15))
  refine (fput_any 1179206193 (.slice Ap 12 cp) ([1] ++ oneO) w16 (by decide) VO.out (by decide) HTW).mono ?_
  rintro e1 y1 ⟨fz, rfl, ho, hb1⟩
  rw [HF2.out] at ho
  have HO1 : Hid (y1.ownsRow w16.heap.size 5 1 fz 20 (vals F2)) := ho
  have HBb := Lib.hid hb1
  obtain ⟨i0, hi0, hz0, hz1, hz2⟩ := info_parts byte_info
  clear ho hb1 VO
  go_wp2_with (
    at_builtin
    obtain ⟨y2, hW⟩ : ∃ W, y1.alloc (.cells #[.int .u8 (b.toNat : Int)] 5) = W := ⟨_, rfl⟩
    obtain ⟨q3, hG⟩ : ∃ G, y1.heap.size = G := ⟨_, rfl⟩
    rw [hW, hG]
    have hbl : Below y1.heap.size y1 y2 := by subst hW; exact (Below.refl _ _).alloc (Nat.le_refl _) _
    have k3 : Blk q3 #[.int .u8 (b.toNat : Int)] 5 y2 := by subst hW hG; exact Blk.new _ _ _
    have hv3 := k3.isB (bs := [b]) rfl rfl (by decide) (n := 1)
    have hh3 : Has y2 (some ⟨q3, 0, none⟩) (vals [b]) := by
      obtain ⟨_, _, _, e, _, _, _, h⟩ := hv3
      injection e with e1 e2 e3
      subst e1
      exact h
    have hs2 : w16.heap.size ≤ y2.heap.size := by have h1 := HBb.out.size; have h2 := hbl.size; omega
    refine wpList_append_has _ rfl (.tmp 65) (.tmp 67) _ rfl w16.heap.size 5 i0 (.int .u8 0) 1 Tryd.underlying25 hi0 hz0 hz1 hz2 rfl fz 20 (vals F2) rfl (own_bel HO1.out hbl) (some ⟨q3, 0, none⟩) 1 1 (vals [b]) rfl rfl hh3 (vals_one _) (by unfold maxLen; omega) (by omega) hs2 ?_
    intro vz w17 hown hgrow _
    have VZ : Hid (IsB w17 vz (F2 ++ [b])) := by
      have h := hown
      rw [← vals_append] at h
      exact IsB.of_own h
    have hb : Below w16.heap.size w16 w17 := (HBb.out.trans (hbl.mono HBb.out.size)).grown hgrow hs2 (own_from (own_bel HO1.out hbl))
    have HB17 := Lib.hid (HB16.out.trans (hb.mono HB16.out.size))
    replace HTW := Lib.hid (HTW.out.bel hb)
    replace V7 := Lib.hid (V7.out.bel hb)
    replace KQ := Lib.hid (KQ.out.bel hb)
    replace KM1 := Lib.hid (KM1.out.bel hb)
    replace VY := Lib.hid (VY.out.bel hb)
    replace KM2 := Lib.hid (KM2.out.bel hb)
    clear hb hown hgrow hW hG hbl k3 hv3 hh3 hs2 HO1 HBb)
  refine (C3.out _ w17 VZ.out HTW).mono ?_
  rintro e1 w18 ⟨zv, rfl, hv, hb⟩
  have HB18 := Lib.hid (HB17.out.trans (hb.mono HB17.out.size))
  replace HTW := Lib.hid (HTW.out.bel hb)
  replace V7 := Lib.hid (V7.out.bel hb)
  replace KQ := Lib.hid (KQ.out.bel hb)
  replace KM1 := Lib.hid (KM1.out.bel hb)
  replace VY := Lib.hid (VY.out.bel hb)
  replace KM2 := Lib.hid (KM2.out.bel hb)
  replace VZ := Lib.hid (VZ.out.bel hb)
  have VC := Lib.hid (hv)
  clear hb HB17
  clear hv C3
  obtain ⟨AZ, cZ, rfl, _, _, _⟩ := VC.out.slice
  clear VZ
  go_upto_region 10 with fail
  obtain ⟨w19, hW⟩ : ∃ W, w18.alloc (.cells #[.slice AZ Q3.length cZ] 24) = W := ⟨_, rfl⟩
  obtain ⟨M3, hG⟩ : ∃ G, w18.heap.size = G := ⟨_, rfl⟩
  rw [hW, hG]
  have hb : Below w18.heap.size w18 w19 := by subst hW; exact (Below.refl _ _).alloc (Nat.le_refl _) _
  have HB19 := Lib.hid (HB18.out.trans (hb.mono HB18.out.size))
  have LM3 : Hid (w.heap.size ≤ M3) := by subst hG; exact HB18.out.size
  have NQM3 : Hid (Q < M3) := by subst hG; exact KQ.out.size
  have NM1M3 : Hid (M1 < M3) := by subst hG; exact KM1.out.size
  have NM2M3 : Hid (M2 < M3) := by subst hG; exact KM2.out.size
  replace HTW := Lib.hid (HTW.out.bel hb)
  replace V7 := Lib.hid (V7.out.bel hb)
  replace KQ := Lib.hid (KQ.out.bel hb)
  replace KM1 := Lib.hid (KM1.out.bel hb)
  replace VY := Lib.hid (VY.out.bel hb)
  replace KM2 := Lib.hid (KM2.out.bel hb)
  replace VC := Lib.hid (VC.out.bel hb)
  have KM3 : Hid (Blk M3 #[.slice AZ Q3.length cZ] 24 w19) := by subst hW hG; exact Blk.new _ _ _
  clear hb hW hG HB18
  have q1 := KM1.out.cell 0 rfl
  have q2 := HQK.out _ KQ.out
  obtain ⟨ad, Bq, mq, rfl, hcell, _, _, _⟩ := (isN_isS VY.out).at_ 0 (by decide)
  have q3 := KM2.out.cell 0 rfl
  have q4 : w19.cell? ad = some (.slice Bq 1 mq) := by rw [← addr_zero ad]; exact hcell
  clear hcell
  go_wp2_with fail
  go_ret
  exact ⟨rfl, HB19.out⟩
end Go.Proofs.YtohggpaffmcfoaaDoor
