/- The walk of theseuslaw07.RuleBytes. -/
import Derived.Test.YtchbghnkfjandaaL07
import Derived.Test.YtchbghnkfjandaaRef07F
import Derived.Test.YtchbghnkfjandaaNumRow
import Derived.Test.YtchbghnkfjandaaBlk
namespace Go.Proofs.Ytchbghnkfjandaa
open Go.RowKit
set_option linter.unusedVariables false
set_option linter.unusedSimpArgs false

theorem put_own (n s : Nat) (w : World) (h1 : 1 ≤ s) (h2 : s ≤ 4) (hn : n < 256 ^ s) : Calls Try.prog 20 #[.int .i64 n, .int .i64 s] w fun e w' =>
    ∃ v, e = .returned (.tuple #[v, .int .i64 0]) ∧ w'.ownsRow w.heap.size 5 1 v s (vals (be s n)) ∧ Below w.heap.size w w' := by
  refine (put_ok n s w (by omega) (by omega) (by omega) (by simpa using hn)).mono ?_
  rintro e w' ⟨rfl, rfl⟩
  simp only [Int.toNat_natCast]
  exact ⟨_, rfl, World.ownsRow_lit (e := 5) (size := 1) w (vals (be s n)).toArray s (Nat.le_refl _) (by unfold maxLen; omega) (by simp [vals_length, be_length]), (Below.refl _ _).alloc (Nat.le_refl _) _⟩
theorem row_two (k c : Nat) (w : World) (hk : (k : Int) ≤ 255) (hc : (c : Int) ≤ 255) : Calls Try.prog 21 #[.int .i64 1, .slice (some ⟨w.heap.size, 0, none⟩) 2 2] (w.alloc (.cells #[.int .i64 (k : Int), .int .i64 (c : Int)] 3)) fun e w' =>
    ∃ v, e = .returned (.tuple #[v, .int .i64 0]) ∧ w'.ownsRow w.heap.size 5 1 v 2 (vals (be 1 k ++ be 1 c)) ∧ Below w.heap.size w w' := by
  have h := row_core (some ⟨w.heap.size, 0, none⟩) 2 2 [(k : Int), (c : Int)] 1 (w.alloc (.cells #[.int .i64 (k : Int), .int .i64 (c : Int)] 3)) rfl (by omega) (Has.new w (ints [(k : Int), (c : Int)]) 3 (0, 0)) (by decide) (by decide) (by
    intro x hx
    simp at hx
    rcases hx with rfl | rfl
    · exact ⟨by omega, by omega⟩
    · exact ⟨by omega, by omega⟩)
  rw [show rowb 1 [(k : Int), (c : Int)] = be 1 k ++ be 1 c by simp [rowb]] at h
  refine h.mono ?_
  rintro e w' ⟨v, rfl, h1, hb⟩
  exact ⟨v, rfl, own_base h1 (by simp only [World.size_alloc]; omega), unbox hb⟩
/-- a string of bytes, by a letter -/
theorem str_name {w : World} {v : Value} {bs : List UInt8} (h : IsB w v bs) (s : ByteArray) (hs : (⟨bs.toArray⟩ : ByteArray) = s) : (convert 26 9 v).run Try.prog w = .ok (.string s) w := by
  rw [← hs]
  exact str_in h
theorem size_of (l : List UInt8) : (⟨l.toArray⟩ : ByteArray).size = l.length := by simp [ByteArray.size]
theorem ba_app (x y : List UInt8) : (⟨x.toArray⟩ ++ ⟨y.toArray⟩ : ByteArray) = ⟨(x ++ y).toArray⟩ := by
  apply ByteArray.ext
  simp
set_option maxRecDepth 100000 in
set_option maxHeartbeats 4000000 in
theorem walkRuleBytes (a0 b0 c0 e0 : Int) (a1 a2 : Int) (w : World) (w0 : (Lit.int .u32 a0).wf = true) (x0 : (Lit.int .i64 b0).wf = true) (y0 : (Lit.int .i64 c0).wf = true) (z0 : (Lit.int .i64 e0).wf = true) (w1 : (Lit.int .u8 a1).wf = true) (w2 : (Lit.int .u16 a2).wf = true) :
    Calls Try.prog 6 #[.agg #[.int .u32 a0, .int .i64 b0, .int .i64 c0, .int .i64 e0], .int .u8 a1, .int .u16 a2] w fun e w' => e = .returned (.bool true) ∧ Below w.heap.size w w' := by
  obtain ⟨hl0, hh0⟩ := bounds_u32 w0
  obtain ⟨a, rfl⟩ := Int.eq_ofNat_of_zero_le hl0
  have ha : (a : Int) ≤ 4294967295 := by omega
  clear w0 hl0 hh0 x0 y0 z0
  obtain ⟨hl1, hh1⟩ := bounds_u8 w1
  obtain ⟨p, rfl⟩ := Int.eq_ofNat_of_zero_le hl1
  obtain ⟨hl2, hh2⟩ := bounds_u16 w2
  obtain ⟨y, rfl⟩ := Int.eq_ofNat_of_zero_le hl2
  have hy : (y : Int) ≤ 65535 := by omega
  clear w1 w2 hl1 hh1 hl2 hh2
  obtain ⟨A, k, act, nx, hA, HL, hk, hcase, HF⟩ := fit_any a b0 c0 e0 256 ha (by omega) (by omega)
  have hact : (act : Int) ≤ 3 := by omega
  have hnx : (nx : Int) ≤ 255 := by omega
  have hm : (p : Int) % 3 = 0 ∨ (p : Int) % 3 = 1 ∨ (p : Int) % 3 = 2 := by omega
  have htm : Int.tmod (p : Int) 3 = (p : Int) % 3 := Int.tmod_eq_emod_of_nonneg (by omega)
  clear hcase HL
  have P1 := Lib.hid (fun w => rulput_ok A k act nx w hA (by omega) (by omega) (by omega))
  simp only [Int.toNat_natCast] at P1
  have N1 := Lib.hid (fun w => put_own A 4 w (by omega) (by omega) (by omega))
  have N2 := Lib.hid (fun w => row_two k act w (by omega) (by omega))
  have N3 := Lib.hid (fun w => put_own nx 2 w (by omega) (by omega) (by omega))
  have HF2 : Hid (∀ w, Calls Try.prog 18 #[.agg #[.int .u32 a, .int .i64 b0, .int .i64 c0, .int .i64 e0], .int .i64 256] w fun e w' => e = .returned (.agg #[.int .u32 A, .int .i64 k, .int .i64 act, .int .i64 nx]) ∧ Below w.heap.size w w') := HF
  obtain ⟨s0, hs0⟩ : ∃ s : ByteArray, (⟨(rb A k act nx 4).toArray⟩ : ByteArray) = s := ⟨_, rfl⟩
  obtain ⟨s1, hs1⟩ : ∃ s : ByteArray, (⟨(be 4 A).toArray⟩ : ByteArray) = s := ⟨_, rfl⟩
  obtain ⟨s2, hs2⟩ : ∃ s : ByteArray, (⟨(be 1 k ++ be 1 act).toArray⟩ : ByteArray) = s := ⟨_, rfl⟩
  obtain ⟨s3, hs3⟩ : ∃ s : ByteArray, (⟨(be 2 nx).toArray⟩ : ByteArray) = s := ⟨_, rfl⟩
  have d0 : s0.size = 8 := by rw [← hs0, size_of, rb_length]
  have d1 : s1.size = 4 := by rw [← hs1, size_of, be_length]
  have d2 : s2.size = 2 := by rw [← hs2, size_of, List.length_append, be_length, be_length]
  have d3 : s3.size = 2 := by rw [← hs3, size_of, be_length]
  have he : s1 ++ s2 ++ s3 = s0 := by
    rw [← hs0, ← hs1, ← hs2, ← hs3, ba_app, ba_app]
    rfl
  have het : (s0.toList == s0.toList) = true := by simp
  have HS0 := Lib.hid hs0
  have HS1 := Lib.hid hs1
  have HS2 := Lib.hid hs2
  have HS3 := Lib.hid hs3
  clear hs0 hs1 hs2 hs3 HF
  have HB0 := Lib.hid (Below.refl w.heap.size w)
  go_enter Try.func6, Try.ntmps6
  go_wp2_with fail
  obtain ⟨w1, hW⟩ : ∃ W, w.alloc (.cells #[.int .u32 (a : Int), .int .i64 b0, .int .i64 c0, .int .i64 e0] 24) = W := ⟨_, rfl⟩
  obtain ⟨g, hG⟩ : ∃ G, w.heap.size = G := ⟨_, rfl⟩
  rw [hW, hG]
  have hb : Below w.heap.size w w1 := by subst hW; exact (Below.refl _ _).alloc (Nat.le_refl _) _
  have HB1 := Lib.hid (HB0.out.trans (hb.mono HB0.out.size))
  have Lg : Hid (w.heap.size ≤ g) := by subst hG; exact HB0.out.size
  have Kg : Hid (Blk g #[.int .u32 (a : Int), .int .i64 b0, .int .i64 c0, .int .i64 e0] 24 w1) := by subst hW hG; exact Blk.new _ _ _
  clear hb hW hG HB0
  refine (shown7 w1).mono ?_
  rintro e1 w2 ⟨rfl, hb⟩
  have HB2 := Lib.hid (HB1.out.trans (hb.mono HB1.out.size))
  replace Kg := Lib.hid (Kg.out.bel hb)
  clear hb HB1
  have qg0 := Kg.out.cell 0 rfl
  have qg1 := Kg.out.cell 1 rfl
  have qg2 := Kg.out.cell 2 rfl
  have qg3 := Kg.out.cell 3 rfl
  go_wp2_with fail
  refine (HF2.out w2).mono ?_
  rintro e1 w3 ⟨rfl, hb⟩
  clear qg0 qg1 qg2 qg3
  have HB3 := Lib.hid (HB2.out.trans (hb.mono HB2.out.size))
  replace Kg := Lib.hid (Kg.out.bel hb)
  clear hb HB2
  clear Kg
  go_wp2_with fail
  obtain ⟨w4, hW⟩ : ∃ W, w3.alloc (.cells #[.int .u32 (A : Int), .int .i64 (k : Int), .int .i64 (act : Int), .int .i64 (nx : Int)] 24) = W := ⟨_, rfl⟩
  obtain ⟨G, hG⟩ : ∃ G, w3.heap.size = G := ⟨_, rfl⟩
  rw [hW, hG]
  have hb : Below w3.heap.size w3 w4 := by subst hW; exact (Below.refl _ _).alloc (Nat.le_refl _) _
  have HB4 := Lib.hid (HB3.out.trans (hb.mono HB3.out.size))
  have LG : Hid (w.heap.size ≤ G) := by subst hG; exact HB3.out.size
  have KG : Hid (Blk G #[.int .u32 (A : Int), .int .i64 (k : Int), .int .i64 (act : Int), .int .i64 (nx : Int)] 24 w4) := by subst hW hG; exact Blk.new _ _ _
  clear hb hW hG HB3
  have hz := KG.out.size
  refine (P1.out w4).mono ?_
  rintro e1 w5 ⟨v0, rfl, hv, hb⟩
  have HB5 := Lib.hid (HB4.out.trans (hb.mono HB4.out.size))
  replace KG := Lib.hid (KG.out.bel hb)
  have V0 := Lib.hid (OwnB.mk (base' := G + 1) hv hz)
  clear hb HB4
  clear hz hv
  have qG0 := KG.out.cell 0 rfl
  go_wp2_with fail
  have hz := KG.out.size
  refine (N1.out w5).mono ?_
  rintro e1 w6 ⟨v1, rfl, hv, hb⟩
  clear qG0
  have HB6 := Lib.hid (HB5.out.trans (hb.mono HB5.out.size))
  replace KG := Lib.hid (KG.out.bel hb)
  replace V0 := Lib.hid (V0.out.bel hb)
  have V1 := Lib.hid (OwnB.mk (base' := G + 1) hv hz)
  clear hb HB5
  clear hz hv
  have qG1 := KG.out.cell 1 rfl
  have qG2 := KG.out.cell 2 rfl
  go_wp2_with fail
  have hz := KG.out.size
  refine (N2.out w6).mono ?_
  rintro e1 w7 ⟨v2, rfl, hv, hb⟩
  clear qG1 qG2
  have HB7 := Lib.hid (HB6.out.trans (hb.mono HB6.out.size))
  replace KG := Lib.hid (KG.out.bel hb)
  replace V0 := Lib.hid (V0.out.bel hb)
  replace V1 := Lib.hid (V1.out.bel hb)
  have V2 := Lib.hid (OwnB.mk (base' := G + 1) hv hz)
  clear hb HB6
  clear hz hv
  have qG3 := KG.out.cell 3 rfl
  go_wp2_with fail
  have hz := KG.out.size
  refine (N3.out w7).mono ?_
  rintro e1 w8 ⟨v3, rfl, hv, hb⟩
  clear qG3
  have HB8 := Lib.hid (HB7.out.trans (hb.mono HB7.out.size))
  replace KG := Lib.hid (KG.out.bel hb)
  replace V0 := Lib.hid (V0.out.bel hb)
  replace V1 := Lib.hid (V1.out.bel hb)
  replace V2 := Lib.hid (V2.out.bel hb)
  have V3 := Lib.hid (OwnB.mk (base' := G + 1) hv hz)
  clear hb HB7
  clear hz hv
  clear P1 N1 N2 N3 HF2
  go_upto_region 7 with fail
  rcases hm with hm | hm | hm
  · have Q := Lib.hid (fun w => rulput_any A (256 + (y : Int)) (act : Int) (nx : Int) w hA)
    rw [putR_no (by rintro ⟨h1, h2, h3⟩; omega)] at Q
    rw [hm] at htm
    have qG1 := KG.out.cell 1 rfl
    have zG1 := KG.out.froz 1
    go_upto_region 13 with fail
    obtain ⟨w9, hW⟩ : ∃ W, w8.setCell ⟨G, 1, none⟩ (.int .i64 (256 + (y : Int))) = W := ⟨_, rfl⟩
    rw [hW]
    clear qG1 zG1
    have HB9 : Hid (Below w.heap.size w w9) := by subst hW; exact HB8.out.setCell (p := ⟨G, 1, none⟩) LG.out _
    replace KG : Hid (Blk G #[.int .u32 (A : Int), .int .i64 (256 + (y : Int)), .int .i64 (act : Int), .int .i64 (nx : Int)] 24 w9) := by subst hW; exact KG.out.set 1 _ rfl
    replace V0 : Hid (OwnB 5 (G + 1) v0 (rb A k act nx 4) w9) := by subst hW; exact V0.out.far G 1 _ (by omega)
    replace V1 : Hid (OwnB 5 (G + 1) v1 (be 4 A) w9) := by subst hW; exact V1.out.far G 1 _ (by omega)
    replace V2 : Hid (OwnB 5 (G + 1) v2 (be 1 k ++ be 1 act) w9) := by subst hW; exact V2.out.far G 1 _ (by omega)
    replace V3 : Hid (OwnB 5 (G + 1) v3 (be 2 nx) w9) := by subst hW; exact V3.out.far G 1 _ (by omega)
    clear hW HB8
    have qG0 := KG.out.cell 0 rfl
    have qG1 := KG.out.cell 1 rfl
    have qG2 := KG.out.cell 2 rfl
    have qG3 := KG.out.cell 3 rfl
    go_wp2_with fail
    refine (Q.out w9).mono ?_
    rintro e1 w10 ⟨v4, rfl, hv4, hb⟩
    clear qG0 qG1 qG2 qG3
    have HB10 := Lib.hid (HB9.out.trans (hb.mono HB9.out.size))
    replace KG := Lib.hid (KG.out.bel hb)
    replace V0 := Lib.hid (V0.out.bel hb)
    replace V1 := Lib.hid (V1.out.bel hb)
    replace V2 := Lib.hid (V2.out.bel hb)
    replace V3 := Lib.hid (V3.out.bel hb)
    clear hb HB9
    obtain ⟨A4, n4, c4, rfl, h4, h5, h6, -⟩ := hv4
    simp only [List.length_nil] at h6
    subst h6
    have t0 := str_name V0.out.isb s0 HS0.out
    have t1 := str_name V1.out.isb s1 HS1.out
    have t2 := str_name V2.out.isb s2 HS2.out
    have t3 := str_name V3.out.isb s3 HS3.out
    clear V0 V1 V2 V3 HS0 HS1 HS2 HS3 Q h4 h5
    go_wp2_with fail
    go_ret
    exact ⟨rfl, HB10.out⟩
  · have Q := Lib.hid (fun w => rulput_any A (k : Int) (-1 - (y : Int)) (nx : Int) w hA)
    rw [putR_no (by rintro ⟨h1, h2, h3⟩; omega)] at Q
    rw [hm] at htm
    have qG2 := KG.out.cell 2 rfl
    have zG2 := KG.out.froz 2
    go_upto_region 13 with fail
    obtain ⟨w9, hW⟩ : ∃ W, w8.setCell ⟨G, 2, none⟩ (.int .i64 (-1 - (y : Int))) = W := ⟨_, rfl⟩
    rw [hW]
    clear qG2 zG2
    have HB9 : Hid (Below w.heap.size w w9) := by subst hW; exact HB8.out.setCell (p := ⟨G, 2, none⟩) LG.out _
    replace KG : Hid (Blk G #[.int .u32 (A : Int), .int .i64 (k : Int), .int .i64 (-1 - (y : Int)), .int .i64 (nx : Int)] 24 w9) := by subst hW; exact KG.out.set 2 _ rfl
    replace V0 : Hid (OwnB 5 (G + 1) v0 (rb A k act nx 4) w9) := by subst hW; exact V0.out.far G 2 _ (by omega)
    replace V1 : Hid (OwnB 5 (G + 1) v1 (be 4 A) w9) := by subst hW; exact V1.out.far G 2 _ (by omega)
    replace V2 : Hid (OwnB 5 (G + 1) v2 (be 1 k ++ be 1 act) w9) := by subst hW; exact V2.out.far G 2 _ (by omega)
    replace V3 : Hid (OwnB 5 (G + 1) v3 (be 2 nx) w9) := by subst hW; exact V3.out.far G 2 _ (by omega)
    clear hW HB8
    have qG0 := KG.out.cell 0 rfl
    have qG1 := KG.out.cell 1 rfl
    have qG2 := KG.out.cell 2 rfl
    have qG3 := KG.out.cell 3 rfl
    go_wp2_with fail
    refine (Q.out w9).mono ?_
    rintro e1 w10 ⟨v4, rfl, hv4, hb⟩
    clear qG0 qG1 qG2 qG3
    have HB10 := Lib.hid (HB9.out.trans (hb.mono HB9.out.size))
    replace KG := Lib.hid (KG.out.bel hb)
    replace V0 := Lib.hid (V0.out.bel hb)
    replace V1 := Lib.hid (V1.out.bel hb)
    replace V2 := Lib.hid (V2.out.bel hb)
    replace V3 := Lib.hid (V3.out.bel hb)
    clear hb HB9
    obtain ⟨A4, n4, c4, rfl, h4, h5, h6, -⟩ := hv4
    simp only [List.length_nil] at h6
    subst h6
    have t0 := str_name V0.out.isb s0 HS0.out
    have t1 := str_name V1.out.isb s1 HS1.out
    have t2 := str_name V2.out.isb s2 HS2.out
    have t3 := str_name V3.out.isb s3 HS3.out
    clear V0 V1 V2 V3 HS0 HS1 HS2 HS3 Q h4 h5
    go_wp2_with fail
    go_ret
    exact ⟨rfl, HB10.out⟩
  · have Q := Lib.hid (fun w => rulput_any A (k : Int) (act : Int) (65536 + (y : Int)) w hA)
    rw [putR_no (by rintro ⟨h1, h2, h3⟩; omega)] at Q
    rw [hm] at htm
    have qG3 := KG.out.cell 3 rfl
    have zG3 := KG.out.froz 3
    go_upto_region 13 with fail
    obtain ⟨w9, hW⟩ : ∃ W, w8.setCell ⟨G, 3, none⟩ (.int .i64 (65536 + (y : Int))) = W := ⟨_, rfl⟩
    rw [hW]
    clear qG3 zG3
    have HB9 : Hid (Below w.heap.size w w9) := by subst hW; exact HB8.out.setCell (p := ⟨G, 3, none⟩) LG.out _
    replace KG : Hid (Blk G #[.int .u32 (A : Int), .int .i64 (k : Int), .int .i64 (act : Int), .int .i64 (65536 + (y : Int))] 24 w9) := by subst hW; exact KG.out.set 3 _ rfl
    replace V0 : Hid (OwnB 5 (G + 1) v0 (rb A k act nx 4) w9) := by subst hW; exact V0.out.far G 3 _ (by omega)
    replace V1 : Hid (OwnB 5 (G + 1) v1 (be 4 A) w9) := by subst hW; exact V1.out.far G 3 _ (by omega)
    replace V2 : Hid (OwnB 5 (G + 1) v2 (be 1 k ++ be 1 act) w9) := by subst hW; exact V2.out.far G 3 _ (by omega)
    replace V3 : Hid (OwnB 5 (G + 1) v3 (be 2 nx) w9) := by subst hW; exact V3.out.far G 3 _ (by omega)
    clear hW HB8
    have qG0 := KG.out.cell 0 rfl
    have qG1 := KG.out.cell 1 rfl
    have qG2 := KG.out.cell 2 rfl
    have qG3 := KG.out.cell 3 rfl
    go_wp2_with fail
    refine (Q.out w9).mono ?_
    rintro e1 w10 ⟨v4, rfl, hv4, hb⟩
    clear qG0 qG1 qG2 qG3
    have HB10 := Lib.hid (HB9.out.trans (hb.mono HB9.out.size))
    replace KG := Lib.hid (KG.out.bel hb)
    replace V0 := Lib.hid (V0.out.bel hb)
    replace V1 := Lib.hid (V1.out.bel hb)
    replace V2 := Lib.hid (V2.out.bel hb)
    replace V3 := Lib.hid (V3.out.bel hb)
    clear hb HB9
    obtain ⟨A4, n4, c4, rfl, h4, h5, h6, -⟩ := hv4
    simp only [List.length_nil] at h6
    subst h6
    have t0 := str_name V0.out.isb s0 HS0.out
    have t1 := str_name V1.out.isb s1 HS1.out
    have t2 := str_name V2.out.isb s2 HS2.out
    have t3 := str_name V3.out.isb s3 HS3.out
    clear V0 V1 V2 V3 HS0 HS1 HS2 HS3 Q h4 h5
    go_wp2_with fail
    go_ret
    exact ⟨rfl, HB10.out⟩
end Go.Proofs.Ytchbghnkfjandaa
