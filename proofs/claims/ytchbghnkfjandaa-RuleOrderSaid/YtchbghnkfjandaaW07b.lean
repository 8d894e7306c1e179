/- The walk of theseuslaw07.RuleOrder. -/
import Derived.Test.YtchbghnkfjandaaL07
import Derived.Test.YtchbghnkfjandaaRef07F
import Derived.Test.YtchbghnkfjandaaBlk
import Derived.Deep.DeepCutAuto
import Derived.Deep.RegionHeld3
namespace Go.Proofs.Ytchbghnkfjandaa
open Go.RowKit
set_option linter.unusedVariables false
set_option linter.unusedSimpArgs false

theorem cmp_turn (a b : Nat) (m n : Int) : cmpI b n a m = -cmpI a m b n := by
  unfold cmpI
  split <;> split <;> (try split) <;> (try split) <;> omega
theorem cmp_small (a b : Nat) (m n : Int) : -1 ≤ cmpI a m b n ∧ cmpI a m b n ≤ 1 := by
  unfold cmpI
  split
  · omega
  · split <;> omega
set_option maxRecDepth 100000 in
set_option maxHeartbeats 8000000 in
theorem walkRuleOrder (a0 b0 c0 e0 : Int) (a1 b1 c1 e1 : Int) (l2 : List Int) (w : World) (w0 : (Lit.int .u32 a0).wf = true) (x0 : (Lit.int .i64 b0).wf = true) (y0 : (Lit.int .i64 c0).wf = true) (z0 : (Lit.int .i64 e0).wf = true) (w1 : (Lit.int .u32 a1).wf = true) (x1 : (Lit.int .i64 b1).wf = true) (y1 : (Lit.int .i64 c1).wf = true) (z1 : (Lit.int .i64 e1).wf = true) (w2 : l2.length = 2 ∧ ∀ x ∈ l2, (Lit.int .u8 x).wf = true) :
    Calls Try.prog 7 #[.agg #[.int .u32 a0, .int .i64 b0, .int .i64 c0, .int .i64 e0], .agg #[.int .u32 a1, .int .i64 b1, .int .i64 c1, .int .i64 e1], .agg (l2.map (Value.int .u8)).toArray] w fun e w' => e = .returned (.bool true) ∧ Below w.heap.size w w' := by
  obtain ⟨hl0, hh0⟩ := bounds_u32 w0
  obtain ⟨a, rfl⟩ := Int.eq_ofNat_of_zero_le hl0
  have ha : (a : Int) ≤ 4294967295 := by omega
  clear w0 hl0 hh0 x0 y0 z0
  obtain ⟨hl1, hh1⟩ := bounds_u32 w1
  obtain ⟨b, rfl⟩ := Int.eq_ofNat_of_zero_le hl1
  have hb : (b : Int) ≤ 4294967295 := by omega
  clear w1 hl1 hh1 x1 y1 z1
  obtain ⟨hlen, hwf⟩ := w2
  obtain ⟨x, y, rfl⟩ : ∃ x y, l2 = [x, y] := by
    match l2, hlen with
    | [x, y], _ => exact ⟨x, y, rfl⟩
  obtain ⟨hlx, hhx⟩ := bounds_u8 (hwf x (by simp))
  obtain ⟨hly, hhy⟩ := bounds_u8 (hwf y (by simp))
  obtain ⟨i, rfl⟩ := Int.eq_ofNat_of_zero_le hlx
  obtain ⟨j, rfl⟩ := Int.eq_ofNat_of_zero_le hly
  clear hwf hlen hlx hly
  have hi : (i : Int) ≤ 255 := by omega
  have hj : (j : Int) ≤ 255 := by omega
  clear hhx hhy
  obtain ⟨m, hm⟩ : ∃ m : Nat, (1 : Int) + (i : Int) = (m : Int) := ⟨1 + i, by omega⟩
  have hm0 : 1 ≤ (m : Int) := by omega
  have hm1 : (m : Int) ≤ 256 := by omega
  obtain ⟨M, hM⟩ : ∃ M : Nat, (m : Int) + (j : Int) = (M : Int) := ⟨m + j, by omega⟩
  have hM1 : IntKind.i64.wrap ((m : Int) + (j : Int)) = (M : Int) := by rw [hM, IntKind.wrap_i64]; omega
  obtain ⟨A, k, act, nx, hA, HL, hk, hcase, HF⟩ := fit_any a b0 c0 e0 m ha hm0 (by omega)
  obtain ⟨B, kb, actb, nxb, hB, HLb, hkb, hcaseb, HFb⟩ := fit_any b b1 c1 e1 m hb hm0 (by omega)
  have hact : (act : Int) ≤ 3 := by omega
  have hnx : (nx : Int) ≤ 255 := by omega
  have hactb : (actb : Int) ≤ 3 := by omega
  have hnxb : (nxb : Int) ≤ 255 := by omega
  have hmay : mayI A (k : Int) = 0 := by rw [may_in _ _ (by omega), if_pos HL.out]
  have C0 := Lib.hid (fun w => compr_any A B k act nx kb actb nxb w)
  have C1 := Lib.hid (fun w => compare_any A B k kb w)
  have C2 := Lib.hid (fun w => compr_any B A kb actb nxb k act nx w)
  have C3 := Lib.hid (fun w => compr_any A A k act nx k 3 0 w)
  rw [cmp_same] at C3
  rw [cmp_turn] at C2
  have hcs := cmp_small A B k kb
  generalize cmpI A k B kb = c at *
  obtain ⟨d, hd⟩ : ∃ d, -c = d := ⟨_, rfl⟩
  have hdw : IntKind.i64.wrap (-c) = d := by rw [hd, IntKind.wrap_i64]; omega
  rw [hd] at C2
  have M4 := Lib.hid (fun w => mayr_any A k act nx m w hA)
  have M5 := Lib.hid (fun w => mayr_any A k act nx M w hA)
  have M6 := Lib.hid (fun w => mayr_any A k 3 0 0 w hA)
  have M7 := Lib.hid (fun w => mayr_any A k act nx 0 w hA)
  rw [mayR_end 0 hmay (.inr rfl)] at M6
  have h4 : mayR A k act nx m = 0 := by
    rcases hcase with ⟨rfl, h⟩ | ⟨h, rfl⟩
    · exact mayR_next hmay (by omega) h
    · exact mayR_end _ hmay (by omega)
  have h5 : mayR A k act nx M = 0 := by
    rcases hcase with ⟨rfl, h⟩ | ⟨h, rfl⟩
    · exact mayR_next hmay (by omega) (by omega)
    · exact mayR_end _ hmay (by omega)
  rw [h4] at M4
  rw [h5] at M5
  obtain ⟨t, ht1, ht2⟩ : ∃ t : Bool, (mayR A k act nx 0 == 0) = t ∧ ((act : Int) != 1) = t := by
    rcases hcase with ⟨rfl, h⟩ | ⟨h, rfl⟩
    · exact ⟨false, by have e : mayR A (k : Int) ((1 : Nat) : Int) (nx : Int) 0 = 10 := mayR_next_no hmay (.inr (by omega)); rw [e]; rfl, rfl⟩
    · refine ⟨true, by have e : mayR A (k : Int) (act : Int) ((0 : Nat) : Int) 0 = 0 := mayR_end _ hmay (by omega); rw [e]; rfl, ?_⟩
      rw [bne_iff_ne]
      omega
  generalize mayR A k act nx 0 = z at *
  have u1 : (c == c) = true := by simp
  have u2 : (d == d) = true := by simp
  have u3 : (t == t) = true := by simp
  have hjw : IntKind.i64.wrap (j : Int) = (j : Int) := by rw [IntKind.wrap_i64]; omega
  clear hcase hcaseb HL HLb hmay h4 h5 hd hcs hM
  have HB0 := Lib.hid (Below.refl w.heap.size w)
  go_enter Try.func7, Try.ntmps7
  go_wp2_with fail
  obtain ⟨wb, hwb⟩ : ∃ W, ((w.alloc (.cells #[.int .u32 (a : Int), .int .i64 b0, .int .i64 c0, .int .i64 e0] 24)).alloc (.cells #[.int .u32 (b : Int), .int .i64 b1, .int .i64 c1, .int .i64 e1] 24)).alloc (.cells #[.int .u8 (i : Int), .int .u8 (j : Int)] 45) = W := ⟨_, rfl⟩
  obtain ⟨g, hg⟩ : ∃ g, w.heap.size = g := ⟨_, rfl⟩
  rw [hwb]
  simp only [World.size_alloc, hg]
  have s1 : (w.alloc (.cells #[.int .u32 (a : Int), .int .i64 b0, .int .i64 c0, .int .i64 e0] 24)).heap.size = g + 1 := by rw [World.size_alloc, hg]
  have s2 : ((w.alloc (.cells #[.int .u32 (a : Int), .int .i64 b0, .int .i64 c0, .int .i64 e0] 24)).alloc (.cells #[.int .u32 (b : Int), .int .i64 b1, .int .i64 c1, .int .i64 e1] 24)).heap.size = g + 1 + 1 := by rw [World.size_alloc, s1]
  have Kx : Hid (Blk g #[.int .u32 (a : Int), .int .i64 b0, .int .i64 c0, .int .i64 e0] 24 wb) := by
    have h0 := Blk.new w #[.int .u32 (a : Int), .int .i64 b0, .int .i64 c0, .int .i64 e0] 24
    rw [hg] at h0
    rw [← hwb]
    exact (h0.bel ((Below.refl _ _).alloc (Nat.le_refl _) _)).bel ((Below.refl _ _).alloc (Nat.le_refl _) _)
  have Ky : Hid (Blk (g + 1) #[.int .u32 (b : Int), .int .i64 b1, .int .i64 c1, .int .i64 e1] 24 wb) := by
    have h0 := Blk.new (w.alloc (.cells #[.int .u32 (a : Int), .int .i64 b0, .int .i64 c0, .int .i64 e0] 24)) #[.int .u32 (b : Int), .int .i64 b1, .int .i64 c1, .int .i64 e1] 24
    rw [s1] at h0
    rw [← hwb]
    exact h0.bel ((Below.refl _ _).alloc (Nat.le_refl _) _)
  have Kn : Hid (Blk (g + 1 + 1) #[.int .u8 (i : Int), .int .u8 (j : Int)] 45 wb) := by
    have h0 := Blk.new ((w.alloc (.cells #[.int .u32 (a : Int), .int .i64 b0, .int .i64 c0, .int .i64 e0] 24)).alloc (.cells #[.int .u32 (b : Int), .int .i64 b1, .int .i64 c1, .int .i64 e1] 24)) #[.int .u8 (i : Int), .int .u8 (j : Int)] 45
    rw [s2] at h0
    rw [← hwb]
    exact h0
  have HB0 : Hid (Below w.heap.size w wb) := by
    rw [← hwb]
    exact (((Below.refl w.heap.size w).alloc (Nat.le_refl _) _).alloc (by simp only [World.size_alloc]; omega) _).alloc (by simp only [World.size_alloc]; omega) _
  clear hwb s1 s2 hg
  obtain ⟨gy, hgy⟩ : ∃ q, g + 1 = q := ⟨_, rfl⟩
  rw [hgy] at Ky Kn ⊢
  obtain ⟨gn, hgn⟩ : ∃ q, gy + 1 = q := ⟨_, rfl⟩
  rw [hgn] at Kn ⊢
  clear hgy hgn
  have Kg := Kx
  have Kgy := Ky
  have Kgn := Kn
  clear Kx Ky Kn
  refine (shown7 wb).mono ?_
  rintro e1 w1 ⟨rfl, hb⟩
  have HB1 := Lib.hid (HB0.out.trans (hb.mono HB0.out.size))
  replace Kg := Lib.hid (Kg.out.bel hb)
  replace Kgy := Lib.hid (Kgy.out.bel hb)
  replace Kgn := Lib.hid (Kgn.out.bel hb)
  clear hb HB0
  have qgn0 := Kgn.out.cell 0 rfl
  have qg0 := Kg.out.cell 0 rfl
  have qg1 := Kg.out.cell 1 rfl
  have qg2 := Kg.out.cell 2 rfl
  have qg3 := Kg.out.cell 3 rfl
  go_wp2_with fail
  refine (HF.out w1).mono ?_
  rintro e1 w2 ⟨rfl, hb⟩
  clear qgn0 qg0 qg1 qg2 qg3
  have HB2 := Lib.hid (HB1.out.trans (hb.mono HB1.out.size))
  replace Kg := Lib.hid (Kg.out.bel hb)
  replace Kgy := Lib.hid (Kgy.out.bel hb)
  replace Kgn := Lib.hid (Kgn.out.bel hb)
  clear hb HB1
  clear Kg
  go_upto_region 4 with fail
  obtain ⟨w3, hW⟩ : ∃ W, w2.alloc (.cells #[.int .u32 (A : Int), .int .i64 (k : Int), .int .i64 (act : Int), .int .i64 (nx : Int)] 24) = W := ⟨_, rfl⟩
  obtain ⟨G, hG⟩ : ∃ G, w2.heap.size = G := ⟨_, rfl⟩
  rw [hW, hG]
  have hb : Below w2.heap.size w2 w3 := by subst hW; exact (Below.refl _ _).alloc (Nat.le_refl _) _
  have HB3 := Lib.hid (HB2.out.trans (hb.mono HB2.out.size))
  have LG : Hid (w.heap.size ≤ G) := by subst hG; exact HB2.out.size
  have NgyG : Hid (gy < G) := by subst hG; exact Kgy.out.size
  have NgnG : Hid (gn < G) := by subst hG; exact Kgn.out.size
  replace Kgy := Lib.hid (Kgy.out.bel hb)
  replace Kgn := Lib.hid (Kgn.out.bel hb)
  have KG : Hid (Blk G #[.int .u32 (A : Int), .int .i64 (k : Int), .int .i64 (act : Int), .int .i64 (nx : Int)] 24 w3) := by subst hW hG; exact Blk.new _ _ _
  clear hb hW hG HB2
  have qgy0 := Kgy.out.cell 0 rfl
  have qgy1 := Kgy.out.cell 1 rfl
  have qgy2 := Kgy.out.cell 2 rfl
  have qgy3 := Kgy.out.cell 3 rfl
  go_wp2_with fail
  refine (HFb.out w3).mono ?_
  rintro e1 w4 ⟨rfl, hb⟩
  clear qgy0 qgy1 qgy2 qgy3
  have HB4 := Lib.hid (HB3.out.trans (hb.mono HB3.out.size))
  replace Kgy := Lib.hid (Kgy.out.bel hb)
  replace Kgn := Lib.hid (Kgn.out.bel hb)
  replace KG := Lib.hid (KG.out.bel hb)
  clear hb HB3
  clear Kgy
  go_upto_region 5 with fail
  obtain ⟨w5, hW⟩ : ∃ W, w4.alloc (.cells #[.int .u32 (B : Int), .int .i64 (kb : Int), .int .i64 (actb : Int), .int .i64 (nxb : Int)] 24) = W := ⟨_, rfl⟩
  obtain ⟨H, hG⟩ : ∃ G, w4.heap.size = G := ⟨_, rfl⟩
  rw [hW, hG]
  have hb : Below w4.heap.size w4 w5 := by subst hW; exact (Below.refl _ _).alloc (Nat.le_refl _) _
  have HB5 := Lib.hid (HB4.out.trans (hb.mono HB4.out.size))
  have LH : Hid (w.heap.size ≤ H) := by subst hG; exact HB4.out.size
  have NgnH : Hid (gn < H) := by subst hG; exact Kgn.out.size
  have NGH : Hid (G < H) := by subst hG; exact KG.out.size
  replace Kgn := Lib.hid (Kgn.out.bel hb)
  replace KG := Lib.hid (KG.out.bel hb)
  have KH : Hid (Blk H #[.int .u32 (B : Int), .int .i64 (kb : Int), .int .i64 (actb : Int), .int .i64 (nxb : Int)] 24 w5) := by subst hW hG; exact Blk.new _ _ _
  clear hb hW hG HB4
  have qG0 := KG.out.cell 0 rfl
  have qG1 := KG.out.cell 1 rfl
  have qG2 := KG.out.cell 2 rfl
  have qG3 := KG.out.cell 3 rfl
  have qH0 := KH.out.cell 0 rfl
  have qH1 := KH.out.cell 1 rfl
  have qH2 := KH.out.cell 2 rfl
  have qH3 := KH.out.cell 3 rfl
  go_wp2_with fail
  refine (C0.out w5).mono ?_
  rintro e1 w6 ⟨rfl, hb⟩
  clear qG0 qG1 qG2 qG3 qH0 qH1 qH2 qH3
  have HB6 := Lib.hid (HB5.out.trans (hb.mono HB5.out.size))
  replace Kgn := Lib.hid (Kgn.out.bel hb)
  replace KG := Lib.hid (KG.out.bel hb)
  replace KH := Lib.hid (KH.out.bel hb)
  clear hb HB5
  have qG0 := KG.out.cell 0 rfl
  have qG1 := KG.out.cell 1 rfl
  have qG2 := KG.out.cell 2 rfl
  have qG3 := KG.out.cell 3 rfl
  go_upto_region 7 with fail
  obtain ⟨w7, hW⟩ : ∃ W, w6.alloc (.cells #[.int .u32 (A : Int), .int .i64 (k : Int), .int .i64 (act : Int), .int .i64 (nx : Int)] 24) = W := ⟨_, rfl⟩
  obtain ⟨T, hG⟩ : ∃ G, w6.heap.size = G := ⟨_, rfl⟩
  rw [hW, hG]
  have hb : Below w6.heap.size w6 w7 := by subst hW; exact (Below.refl _ _).alloc (Nat.le_refl _) _
  have HB7 := Lib.hid (HB6.out.trans (hb.mono HB6.out.size))
  have LT : Hid (w.heap.size ≤ T) := by subst hG; exact HB6.out.size
  clear qG0 qG1 qG2 qG3
  have NgnT : Hid (gn < T) := by subst hG; exact Kgn.out.size
  have NGT : Hid (G < T) := by subst hG; exact KG.out.size
  have NHT : Hid (H < T) := by subst hG; exact KH.out.size
  replace Kgn := Lib.hid (Kgn.out.bel hb)
  replace KG := Lib.hid (KG.out.bel hb)
  replace KH := Lib.hid (KH.out.bel hb)
  have KT : Hid (Blk T #[.int .u32 (A : Int), .int .i64 (k : Int), .int .i64 (act : Int), .int .i64 (nx : Int)] 24 w7) := by subst hW hG; exact Blk.new _ _ _
  clear hb hW hG HB6
  have qT2 := KT.out.cell 2 rfl
  have zT2 := KT.out.froz 2
  go_upto_region 8 with fail
  obtain ⟨w8, hW⟩ : ∃ W, w7.setCell ⟨T, 2, none⟩ (.int .i64 3) = W := ⟨_, rfl⟩
  rw [hW]
  clear qT2 zT2
  have HB8 : Hid (Below w.heap.size w w8) := by subst hW; exact HB7.out.setCell (p := ⟨T, 2, none⟩) LT.out _
  replace KT : Hid (Blk T #[.int .u32 (A : Int), .int .i64 (k : Int), .int .i64 3, .int .i64 (nx : Int)] 24 w8) := by subst hW; exact KT.out.set 2 _ rfl
  replace KG : Hid (Blk G #[.int .u32 (A : Int), .int .i64 (k : Int), .int .i64 (act : Int), .int .i64 (nx : Int)] 24 w8) := by subst hW; exact KG.out.far T 2 _ (Nat.ne_of_lt NGT.out)
  replace KH : Hid (Blk H #[.int .u32 (B : Int), .int .i64 (kb : Int), .int .i64 (actb : Int), .int .i64 (nxb : Int)] 24 w8) := by subst hW; exact KH.out.far T 2 _ (Nat.ne_of_lt NHT.out)
  replace Kgn : Hid (Blk gn #[.int .u8 (i : Int), .int .u8 (j : Int)] 45 w8) := by subst hW; exact Kgn.out.far T 2 _ (Nat.ne_of_lt NgnT.out)
  clear hW HB7
  have qT3 := KT.out.cell 3 rfl
  have zT3 := KT.out.froz 3
  go_upto_region 9 with fail
  obtain ⟨w9, hW⟩ : ∃ W, w8.setCell ⟨T, 3, none⟩ (.int .i64 0) = W := ⟨_, rfl⟩
  rw [hW]
  clear qT3 zT3
  have HB9 : Hid (Below w.heap.size w w9) := by subst hW; exact HB8.out.setCell (p := ⟨T, 3, none⟩) LT.out _
  replace KT : Hid (Blk T #[.int .u32 (A : Int), .int .i64 (k : Int), .int .i64 3, .int .i64 0] 24 w9) := by subst hW; exact KT.out.set 3 _ rfl
  replace KG : Hid (Blk G #[.int .u32 (A : Int), .int .i64 (k : Int), .int .i64 (act : Int), .int .i64 (nx : Int)] 24 w9) := by subst hW; exact KG.out.far T 3 _ (Nat.ne_of_lt NGT.out)
  replace KH : Hid (Blk H #[.int .u32 (B : Int), .int .i64 (kb : Int), .int .i64 (actb : Int), .int .i64 (nxb : Int)] 24 w9) := by subst hW; exact KH.out.far T 3 _ (Nat.ne_of_lt NHT.out)
  replace Kgn : Hid (Blk gn #[.int .u8 (i : Int), .int .u8 (j : Int)] 45 w9) := by subst hW; exact Kgn.out.far T 3 _ (Nat.ne_of_lt NgnT.out)
  clear hW HB8
  have HN : Hid (∀ wx, Below w9.heap.size w9 wx → wx.cell? ⟨G, 0, none⟩ = some (.int .u32 (A : Int)) ∧ wx.cell? ⟨G, 1, none⟩ = some (.int .i64 (k : Int)) ∧ wx.cell? ⟨G, 2, none⟩ = some (.int .i64 (act : Int)) ∧ wx.cell? ⟨G, 3, none⟩ = some (.int .i64 (nx : Int)) ∧ wx.cell? ⟨H, 0, none⟩ = some (.int .u32 (B : Int)) ∧ wx.cell? ⟨H, 1, none⟩ = some (.int .i64 (kb : Int)) ∧ wx.cell? ⟨H, 2, none⟩ = some (.int .i64 (actb : Int)) ∧ wx.cell? ⟨H, 3, none⟩ = some (.int .i64 (nxb : Int)) ∧ wx.cell? ⟨T, 0, none⟩ = some (.int .u32 (A : Int)) ∧ wx.cell? ⟨T, 1, none⟩ = some (.int .i64 (k : Int)) ∧ wx.cell? ⟨T, 2, none⟩ = some (.int .i64 3) ∧ wx.cell? ⟨T, 3, none⟩ = some (.int .i64 0) ∧ wx.cell? ⟨gn, 1, none⟩ = some (.int .u8 (j : Int))) := fun wx hx => ⟨(KG.out.bel hx).cell 0 rfl, (KG.out.bel hx).cell 1 rfl, (KG.out.bel hx).cell 2 rfl, (KG.out.bel hx).cell 3 rfl, (KH.out.bel hx).cell 0 rfl, (KH.out.bel hx).cell 1 rfl, (KH.out.bel hx).cell 2 rfl, (KH.out.bel hx).cell 3 rfl, (KT.out.bel hx).cell 0 rfl, (KT.out.bel hx).cell 1 rfl, (KT.out.bel hx).cell 2 rfl, (KT.out.bel hx).cell 3 rfl, (Kgn.out.bel hx).cell 1 rfl⟩
  obtain ⟨r0, r1, r2, r3, r4, r5, r6, r7, r8, r9, r10, r11, r12⟩ := HN.out w9 (Below.refl _ _)
  have HD := Lib.hid (Below.refl w9.heap.size w9).drew
  clear KG KH KT Kgn
  go_cut [6] (fun r wx => r = .bool true ∧ Hid (Below w9.heap.size w9 wx))
  case first =>
    go_region_held3 (fun w' => w'.cell? ⟨G, 0, none⟩ = some (.int .u32 (A : Int)) ∧ w'.cell? ⟨G, 1, none⟩ = some (.int .i64 (k : Int)) ∧ w'.cell? ⟨G, 2, none⟩ = some (.int .i64 (act : Int)) ∧ w'.cell? ⟨G, 3, none⟩ = some (.int .i64 (nx : Int)) ∧ w'.cell? ⟨H, 0, none⟩ = some (.int .u32 (B : Int)) ∧ w'.cell? ⟨H, 1, none⟩ = some (.int .i64 (kb : Int)) ∧ w'.cell? ⟨H, 2, none⟩ = some (.int .i64 (actb : Int)) ∧ w'.cell? ⟨H, 3, none⟩ = some (.int .i64 (nxb : Int)) ∧ w'.cell? ⟨T, 0, none⟩ = some (.int .u32 (A : Int)) ∧ w'.cell? ⟨T, 1, none⟩ = some (.int .i64 (k : Int)) ∧ w'.cell? ⟨T, 2, none⟩ = some (.int .i64 3) ∧ w'.cell? ⟨T, 3, none⟩ = some (.int .i64 0) ∧ w'.cell? ⟨gn, 1, none⟩ = some (.int .u8 (j : Int)))
      (first | go_keep | exact HN.out _ D7.out | exact HN.out _ D6.out | exact HN.out _ D5.out | exact HN.out _ D4.out | exact HN.out _ D3.out | exact HN.out _ D2.out | exact HN.out _ D1.out)
      (first
        | (go_simp; go_at_call 22; (with_reducible refine (C1.out _).mono ?_); rintro e w21 ⟨rfl, hb1⟩; have D1 := Lib.hid (HD.out.trans (hb1.mono HD.out.size)); clear hb1)
        | (go_simp; go_at_call 16; (with_reducible refine (C2.out _).mono ?_); rintro e w22 ⟨rfl, hb2⟩; have D2 := Lib.hid (D1.out.trans (hb2.mono D1.out.size)); clear hb2)
        | (go_simp; go_at_call 16; (with_reducible refine (C3.out _).mono ?_); rintro e w23 ⟨rfl, hb3⟩; have D3 := Lib.hid (D2.out.trans (hb3.mono D2.out.size)); clear hb3)
        | (go_simp; go_at_call 14; (with_reducible refine (M4.out _).mono ?_); rintro e w24 ⟨rfl, hb4⟩; have D4 := Lib.hid (D3.out.trans (hb4.mono D3.out.size)); clear hb4)
        | (go_simp; go_at_call 14; (with_reducible refine (M5.out _).mono ?_); rintro e w25 ⟨rfl, hb5⟩; have D5 := Lib.hid (D4.out.trans (hb5.mono D4.out.size)); clear hb5)
        | (go_simp; go_at_call 14; (with_reducible refine (M6.out _).mono ?_); rintro e w26 ⟨rfl, hb6⟩; have D6 := Lib.hid (D5.out.trans (hb6.mono D5.out.size)); clear hb6)
        | (go_simp; go_at_call 14; (with_reducible refine (M7.out _).mono ?_); rintro e w27 ⟨rfl, hb7⟩; have D7 := Lib.hid (D6.out.trans (hb7.mono D6.out.size)); clear hb7))
    all_goals
      go_wp2_with fail
      go_meet
      exact ⟨rfl, D7⟩
  case rest =>
    obtain ⟨rfl, HBc⟩ := hcut
    go_wp2_with fail
    go_ret
    exact ⟨rfl, HB9.out.trans (HBc.out.mono HB9.out.size)⟩
end Go.Proofs.Ytchbghnkfjandaa
