/- The walks of the laws of package theseuslaw01: NumRows. -/
import Derived.Test.YtnhhpdjcipfdjaaL01
import Derived.Test.YtnhhpdjcipfdjaaFrame
import Derived.StillTailTactics
import Derived.Deep.RegionHeld3
import Derived.Deep.DeepCutAuto
namespace Go.Proofs.Ytnhhpdjcipfdjaa
open Go.RowKit
set_option linter.unusedVariables false
set_option linter.unusedSimpArgs false
attribute [local go_sem ↓] sliced_cut
attribute [local go_sem] cutA_zero

theorem int_info1 : (Try.prog.info? 3).map (fun i => (i.zero, i.size, i.bytes)) = some (some (.int .i64 0), 1, 8) := by kernel_rfl
theorem and_fits (z : Int) (s : Nat) (hs : s ≤ 4) : ∃ x : Int, bits .and .i64 z (((256 ^ s : Nat) : Int) - 1) = x ∧ fits s x := by
  refine ⟨_, rfl, ?_⟩
  have hp : 0 < 256 ^ s := Nat.pow_pos (by omega)
  have hp2 : 256 ^ s ≤ 256 ^ 4 := Nat.pow_le_pow_right (by omega) hs
  have e : (((256 ^ s : Nat) : Int) - 1) = ((256 ^ s - 1 : Nat) : Int) := by omega
  rw [e]
  have h1 : bits .and .i64 z ((256 ^ s - 1 : Nat) : Int) = IntKind.i64.wrap (((BitVec.ofInt 64 z &&& BitVec.ofInt 64 ((256 ^ s - 1 : Nat) : Int)).toNat : Nat) : Int) := rfl
  have h2 : (BitVec.ofInt 64 z &&& BitVec.ofInt 64 ((256 ^ s - 1 : Nat) : Int)).toNat ≤ 256 ^ s - 1 := by
    rw [BitVec.toNat_and, ofInt_i64 _ (by omega)]
    exact Nat.and_le_right
  rw [h1, IntKind.wrap_i64]
  unfold fits
  omega

theorem rowb_piece (s : Nat) : ∀ (l : List Int) (i : Nat) (h : i < l.length), ((rowb s l).drop (i * s)).take s = be s l[i].toNat
  | a :: l, 0, _ => by
    rw [Nat.zero_mul, List.drop_zero, rowb, List.flatMap_cons, List.take_append_of_le_length (by rw [be_length]; omega), List.take_of_length_le (by rw [be_length]; omega)]
    rfl
  | a :: l, i + 1, h => by
    have ih := rowb_piece s l i (by simpa using h)
    rw [rowb, List.flatMap_cons, Nat.add_mul, Nat.one_mul, Nat.add_comm, ← List.drop_drop, List.drop_left' (be_length s _)]
    exact ih
theorem wrap_same (n : Int) : IntKind.i64.wrap n = wrap64 n := by rw [IntKind.wrap_i64]; unfold wrap64; rfl
theorem pow_pack (s : Nat) (h1 : 1 ≤ s) (h2 : s ≤ 4) : ∃ P : Nat, Hid (P = 256 ^ s) ∧ wrap64 (2 ^ (8 * s)) = (P : Int) ∧ 1 ≤ (P : Int) ∧ (P : Int) ≤ 4294967296 := by
  refine ⟨256 ^ s, rfl, pow_wrap s h1 h2, ?_, ?_⟩
  · have : 0 < 256 ^ s := Nat.pow_pos (by omega)
    omega
  · have : s = 1 ∨ s = 2 ∨ s = 3 ∨ s = 4 := by omega
    rcases this with rfl | rfl | rfl | rfl <;> decide

theorem bad_list (xs : List Int) (k q s P : Nat) (a2 : Int) (HXL : Hid (xs.length = k)) (HXS : Hid (xs.length = k ∧ ∀ x ∈ xs, fits s x)) (HP : Hid (P = 256 ^ s)) (hq : q ≤ k) (ha2 : 0 ≤ a2) :
    Hid ((xs.take q ++ [(P : Int) + a2] ++ xs.drop q ++ [-1]).length = q + 1 + (k - q) + 1) ∧ Hid (∀ x ∈ (xs.take q ++ [(P : Int) + a2] ++ xs.drop q ++ [-1]).take q, fits s x) ∧
    Hid (∀ x, (xs.take q ++ [(P : Int) + a2] ++ xs.drop q ++ [-1])[q]? = some x → x < 0 ∨ 256 ^ s ≤ x.toNat) := by
  have hl : (xs.take q).length = q := by rw [List.length_take, HXL.out]; omega
  have hl2 : (xs.drop q).length = k - q := by rw [List.length_drop, HXL.out]
  refine ⟨?_, ?_, ?_⟩
  · show _ = _
    rw [List.length_append, List.length_append, List.length_append, hl, hl2]
    rfl
  · intro x hx
    rw [List.append_assoc, List.append_assoc, List.take_append_of_le_length (by rw [hl]; exact Nat.le_refl _), List.take_of_length_le (by rw [hl]; exact Nat.le_refl _)] at hx
    exact HXS.out.2 x (List.mem_of_mem_take hx)
  · intro x hx
    rw [List.append_assoc, List.append_assoc, List.getElem?_append_right (by rw [hl]; exact Nat.le_refl _), hl, Nat.sub_self] at hx
    simp only [List.cons_append, List.getElem?_cons_zero, Option.some.injEq] at hx
    right
    rw [← HP.out, ← hx]
    clear HP hx
    omega
set_option maxRecDepth 100000 in
set_option maxHeartbeats 2000000 in
theorem walkNumRows (a0 : Option Addr) (n0 c0 : Nat) (l0 : List Int) (l1 : List Int) (a2 : Int) (w : World) (w0 : InI .i64 w a0 n0 c0 l0) (w1 : l1.length = 2 ∧ ∀ x ∈ l1, (Lit.int .u8 x).wf = true) (w2 : (Lit.int .u32 a2).wf = true) :
    Calls Try.prog 8 #[.slice a0 n0 c0, .agg (l1.map (Value.int .u8)).toArray, .int .u32 a2] w fun e w' => e = .returned (.bool true) ∧ Below w.heap.size w w' := by
  obtain ⟨hlen, hcap, hmax, hhas, hwf⟩ := w0
  obtain ⟨hl2, hw1⟩ := w1
  obtain ⟨p0, p1, rfl⟩ : ∃ p0 p1, l1 = [p0, p1] := by
    match l1, hl2 with
    | [a, b], _ => exact ⟨a, b, rfl⟩
  obtain ⟨hp0, hp0'⟩ := bounds_u8 (hw1 p0 (by simp))
  obtain ⟨hp1, hp1'⟩ := bounds_u8 (hw1 p1 (by simp))
  obtain ⟨ha2, ha2'⟩ := bounds_u32 w2
  clear hw1 hl2 w2
  obtain ⟨N, hN⟩ : ∃ N, min n0 20 = N := ⟨_, rfl⟩
  have hN1 : N ≤ 20 := by omega
  have hN2 : N ≤ n0 := by omega
  have HN := Lib.hid hN
  have HC := Lib.hid hcap
  have HX := Lib.hid hmax
  have HHAS := Lib.hid hhas
  have HLEN := Lib.hid hlen
  clear hN hhas hlen hwf
  have hmax' := hmax
  unfold maxLen at hmax'
  clear hmax
  obtain ⟨s, hs⟩ : ∃ s : Nat, 1 + p0 % 4 = s := ⟨(1 + p0 % 4).toNat, by omega⟩
  have hs1 : 1 ≤ (s : Int) := by omega
  have hs2 : (s : Int) ≤ 4 := by omega
  obtain ⟨P, HP, hpw, hP1, hP2⟩ := pow_pack s (by omega) (by omega)
  go_enter Try.func8, Try.ntmps8
  go_wp2_with fail
  refine (shown1 _).mono ?_
  rintro e w1 ⟨rfl, hb1⟩
  have HB0 : Hid (Below w.heap.size w w1) := ((Below.refl _ _).alloc (Nat.le_refl _) _).trans (hb1.mono (by simp))
  have hq0 : w1.cell? ⟨w.heap.size, 0, none⟩ = some (.int .u8 p0) := by
    rw [hb1.cell (by simp), World.cell?_alloc_mark]
    rfl
  have hq1 : w1.cell? ⟨w.heap.size, 1, none⟩ = some (.int .u8 p1) := by
    rw [hb1.cell (by simp), World.cell?_alloc_mark]
    rfl
  have HZ1 : Hid (w.heap.size < w1.heap.size) := by
    have := hb1.size
    simp only [World.size_alloc] at this
    exact this
  clear hb1
  go_wp2_with fail
  have HO0 : Hid ((w1.alloc (.cells #[] 3)).ownsRow w1.heap.size 3 1 (.slice (some ⟨w1.heap.size, 0, none⟩) 0 0) 0 (ints [])) :=
    World.ownsRow_lit (e := 3) (size := 1) w1 #[] 0 (Nat.le_refl _) (by decide) rfl
  have HB1 : Hid (Below w1.heap.size w1 (w1.alloc (.cells #[] 3))) := (Below.refl _ _).alloc (Nat.le_refl _) _
  go_loopw [9, 10] (fun v i wr => ∃ (k : Nat) (xs : List Int), k ≤ N ∧ i = .int .i64 k ∧ Hid (wr.ownsRow w1.heap.size 3 1 v k (ints xs)) ∧ Hid (xs.length = k ∧ ∀ x ∈ xs, fits s x) ∧ Hid (Below w1.heap.size w1 wr)) (fun _ i _ => N - (intOf i).toNat)
  case atStart => exact ⟨0, [], Nat.zero_le _, rfl, HO0, ⟨rfl, by simp⟩, HB1⟩
  case round =>
    obtain ⟨k, xs, hk, rfl, HW, HXS, HBe⟩ := hrel
    clear HO0 HB1
    have HB2 : Hid (Below w.heap.size w wr) := HB0.out.trans (HBe.out.mono HB0.out.size)
    by_cases hlt : k < N
    · have hjl0 : k < l0.length := by rw [HLEN.out]; omega
      obtain ⟨ad, rfl, hcell0⟩ := HHAS.out.at_ (k := k) (by rw [List.length_map]; exact hjl0)
      rw [List.getElem_map] at hcell0
      have HCE := Lib.hid hcell0
      clear hcell0
      have hcell : wr.cell? (ad.add k) = some (.int .i64 l0[k]) := by
        rw [HB2.out.cell (World.block_lt_of_cell? w _ HCE.out)]
        exact HCE.out
      obtain ⟨x, hand, hfx⟩ := and_fits l0[k] s (by omega)
      rw [← HP.out] at hand
      have HFX := Lib.hid hfx
      clear hfx
      go_wp2_with fail
      refine (short1 _ _ _ _ HC.out HX.out).mono ?_
      rintro e w' ⟨rfl, rfl⟩
      rw [HN.out]
      go_wp2_with fail
      obtain ⟨i0, hi0, hz0, hz1, hz2⟩ := info_parts int_info1
      have hlz : (ad.add k).block < wr.heap.size := World.block_lt_of_cell? wr _ hcell
      have hlz0 : (ad.add k).block < w1.heap.size := by have := World.block_lt_of_cell? w _ HCE.out; have := HZ1.out; omega
      have hk0 : (0 : Int) ≤ (k : Int) := by omega
      have hk1 : (k : Int) < (n0 : Int) := by omega
      have hw8 : IntKind.i64.wrap (8 * (s : Int)) = 8 * (s : Int) := IntWalk.i64_in _ (by omega)
      have hw80 : (0 : Int) ≤ 8 * (s : Int) := by omega
      have hshl : IntKind.i64.wrap (2 ^ (8 * (s : Int)).toNat) = (P : Int) := by
        rw [show (8 * (s : Int)).toNat = 8 * s from by omega, wrap_same, hpw]
      have hsub : IntKind.i64.wrap ((P : Int) - 1) = (P : Int) - 1 := IntWalk.i64_in _ (by omega)
      go_region_held3 (fun w' => w'.cell? (ad.add k) = some (.int .i64 l0[k]))
        (first
          | go_keep
          | (rw [World.cell?_alloc_lt _ _ _ (by simp; omega)]; assumption)
          | (rw [hgrow2.cell_far _ (by simp; omega) (by intro hh; have := (HW.out.lt _ hh.symm).1; have := HCE.out; omega)]; assumption))
        ((refine step_append_has _ (by rfl) (.tmp 34) (.tmp 44) _ (by rfl) w1.heap.size 3 i0 (.int .i64 0) 8 Try.underlying22 hi0 hz0 hz1 hz2 rfl u9 k _ (by rfl) ((HW.out.alloc _).drew) _ 1 _ (ints [x]) (by rfl) rfl (Has.new wr (ints [x]) 3 (0, 0)).drew (ints_one _) (by unfold maxLen; omega) (by omega) (by have := HBe.out.size; simp; omega) ?_; intro v2 w2 hown2 hgrow2 hat2))
      have HOW := Lib.hid hown2
      have HGR := Lib.hid hgrow2
      clear hown2 hgrow2 hat2 hw8 hw80 hshl hsub hlz hlz0 hi0 hz0 hz1 hz2
      go_wp2_with fail
      go_roundw
      case rel =>
        refine ⟨k + 1, xs ++ [x], by omega, by go_num, ?_, ⟨?_, ?_⟩, ?_⟩
        · rw [ints_append]
          exact HOW.out
        · rw [List.length_append, HXS.out.1]
          rfl
        · intro y hy
          rcases List.mem_append.1 hy with hy | hy
          · exact HXS.out.2 y hy
          · rw [List.mem_singleton.1 hy]
            exact HFX.out
        · exact ((HBe.out.alloc HBe.out.size _).drew).grown HGR.out (by have := HBe.out.size; simp; omega) (fun g hg => (HW.out.lt g hg).1)
      case measure => simp [intOf]; omega
    · have hkN : k = N := by omega
      subst hkN
      obtain ⟨A, c, rfl, hkc, hcm, hcl, hcA⟩ := Sl.of_own HW.out
      have HA := Lib.hid hcA
      have HCM := Lib.hid hcm
      have HXL : Hid (xs.length = k) := HXS.out.1
      clear hcA hcm hcl
      have hq1 : wr.cell? ⟨w.heap.size, 1, none⟩ = some (.int .u8 p1) := by
        rw [HBe.out.cell HZ1.out]
        exact hq1
      have hcm' := HCM.out
      unfold maxLen at hcm'
      go_wp2_with fail
      refine (short1 _ _ _ _ HC.out HX.out).mono ?_
      rintro e w' ⟨rfl, rfl⟩
      rw [HN.out]
      go_wp2_with fail
      refine (row_ok _ _ _ xs _ _ HXL.out (by omega) HA.out hs1 hs2 (by rw [Int.toNat_natCast]; exact HXS.out.2)).mono ?_
      rintro e w2 ⟨v2, rfl, hown2, hb2⟩
      rw [Int.toNat_natCast] at hown2
      obtain ⟨T, hT⟩ : ∃ T, k * s = T := ⟨_, rfl⟩
      rw [hT] at hown2
      have HT := Lib.hid hT
      clear hT
      have HB3 := Lib.hid (HB2.out.trans (hb2.mono HB2.out.size))
      have HA2 := Lib.hid (HA.out.bel hb2)
      obtain ⟨A2, c2, rfl, htc, hcm2, hcl2, hcA2⟩ := Sl.of_own hown2
      have HR := Lib.hid hcA2
      have hq2 : w2.cell? ⟨w.heap.size, 1, none⟩ = some (.int .u8 p1) := by
        rw [hb2.cell (World.block_lt_of_cell? wr _ hq1)]
        exact hq1
      clear hown2 hb2 hcl2 hcA2 hcm2
      obtain ⟨q, hq⟩ : ∃ q : Nat, p1 % ((k : Int) + 1) = q := ⟨(p1 % ((k : Int) + 1)).toNat, by have := Int.emod_nonneg p1 (show (k : Int) + 1 ≠ 0 by omega); omega⟩
      have hqk : q ≤ k := by have := Int.emod_lt_of_pos p1 (show (0 : Int) < (k : Int) + 1 by omega); omega
      go_upto_region 10 with fail
      rw [hq]
      have hqz : (0 : Int) ≤ (q : Int) := by omega
      have hqk' : (q : Int) ≤ (k : Int) := by omega
      have hqc : (q : Int) ≤ (c : Int) := by omega
      have hw8 : IntKind.i64.wrap (8 * (s : Int)) = 8 * (s : Int) := IntWalk.i64_in _ (by omega)
      have hw80 : (0 : Int) ≤ 8 * (s : Int) := by omega
      have hshl : IntKind.i64.wrap (2 ^ (8 * (s : Int)).toNat) = (P : Int) := by
        rw [show (8 * (s : Int)).toNat = 8 * s from by omega, wrap_same, hpw]
      have hw32 : IntKind.i64.wrap a2 = a2 := IntWalk.i64_in _ (by omega)
      have hadd : IntKind.i64.wrap ((P : Int) + a2) = (P : Int) + a2 := IntWalk.i64_in _ (by omega)
      have HAq : Hid (Has w2 A (ints (xs.take q))) := by rw [ints_take]; exact HA2.out.take q
      have HXQ : Hid ((ints (xs.take q)).length = q) := by
        show _ = _
        rw [ints_length, List.length_take, HXL.out]
        omega
      have ol0 := Lib.hid (World.ownsRow_lit (e := 3) (size := 1) w2 #[] 0 (Nat.le_refl _) (by decide) rfl)
      have ol1 : Hid (((w2.alloc (.cells #[.int .i64 ((P : Int) + a2)] 3)).alloc (.cells #[] 3)).ownsRow w2.heap.size 3 1 (.slice (some ⟨w2.heap.size + 1, 0, none⟩) 0 0) 0 []) := by
        have := World.ownsRow_lit (base := w2.heap.size) (e := 3) (size := 1) (w2.alloc (.cells #[.int .i64 ((P : Int) + a2)] 3)) #[] 0 (by simp) (by decide) rfl
        rw [World.size_alloc] at this
        exact this
      have nw0 := Lib.hid (Has.new w2 (ints [(P : Int) + a2]) 3 (0, 0))
      have nw1 : Hid (Has ((w2.alloc (.cells #[] 3)).alloc (.cells (ints [(P : Int) + a2]).toArray 3)) (some ⟨w2.heap.size + 1, 0, none⟩) (ints [(P : Int) + a2])) := by
        have := Has.new (w2.alloc (.cells #[] 3)) (ints [(P : Int) + a2]) 3 (0, 0)
        rw [World.size_alloc] at this
        exact this
      obtain ⟨i0, hi0, hz0, hz1, hz2⟩ := info_parts int_info1
      go_cut [14] (fun v wx => Hid (wx.ownsRow w2.heap.size 3 1 v (q + 1) (ints (xs.take q) ++ ints [(P : Int) + a2])) ∧ Hid (Below w2.heap.size w2 wx))
      case first =>
        go_region_held3 (fun w' => True) (trivial)
          (first
            | ((refine step_append_has _ (by rfl) (.tmp 59) (.tmp 62) _ (by rfl) w2.heap.size 3 i0 (.int .i64 0) 8 Try.underlying22 hi0 hz0 hz1 hz2 rfl (.slice (some ⟨w2.heap.size, 0, none⟩) 0 0) 0 [] (by rfl) ?_ A q _ (ints (xs.take q)) (by rfl) HXQ.out ?_ (ints_one _) (by unfold maxLen; omega) (by omega) ?_ ?_
                · first | exact ol0.out.drew | exact (ol0.out.alloc _).drew | exact ol1.out.drew
                · first | exact (HAq.out.alloc _).drew | exact ((HAq.out.alloc _).alloc _).drew
                · first | (simp; done) | (simp; omega)
                intro v3 w3 hown3 hgrow3 hat3))
            | ((refine step_append_has _ (by rfl) (.tmp 59) (.tmp 62) _ (by rfl) w2.heap.size 3 i0 (.int .i64 0) 8 Try.underlying22 hi0 hz0 hz1 hz2 rfl (.slice (some ⟨w2.heap.size + 1, 0, none⟩) 0 0) 0 [] (by rfl) ?_ A q _ (ints (xs.take q)) (by rfl) HXQ.out ?_ (ints_one _) (by unfold maxLen; omega) (by omega) ?_ ?_
                · first | exact ol0.out.drew | exact (ol0.out.alloc _).drew | exact ol1.out.drew
                · first | exact (HAq.out.alloc _).drew | exact ((HAq.out.alloc _).alloc _).drew
                · first | (simp; done) | (simp; omega)
                intro v3 w3 hown3 hgrow3 hat3))
            | ((refine step_append_has _ (by rfl) (.tmp 63) (.tmp 70) _ (by rfl) w2.heap.size 3 i0 (.int .i64 0) 8 Try.underlying22 hi0 hz0 hz1 hz2 rfl v3 (0 + q) ([] ++ ints (xs.take q)) (by rfl) ?_ _ 1 _ (ints [(P : Int) + a2]) (by rfl) rfl ?_ (ints_one _) (by unfold maxLen; omega) (by omega) ?_ ?_
                · first | exact hown3 | exact hown3.alloc _
                · first
                    | exact Has.new w3 (ints [(P : Int) + a2]) _ _
                    | exact Has.grown nw1.out.drew hgrow3 (by intro a ha hh; injection ha with ha; subst ha; simp [Value.ownBlock] at hh)
                    | exact Has.grown (nw0.out.alloc _).drew hgrow3 (by intro a ha hh; injection ha with ha; subst ha; simp [Value.ownBlock] at hh)
                · have := hgrow3.size; first | (simp at this ⊢; omega)
                intro v4 w4 hown4 hgrow4 hat4)))
        all_goals
          have HO4 := Lib.hid hown4
          have hb3 : Below w2.heap.size w2 w3 := by
            first
              | exact ((Below.refl _ _).alloc (Nat.le_refl _) _).drew.grown hgrow3 (by simp) (by intro g hg; simp [Value.ownBlock] at hg; omega)
              | exact (((Below.refl _ _).alloc (Nat.le_refl _) _).alloc (by simp) _).drew.grown hgrow3 (by simp; omega) (by intro g hg; simp [Value.ownBlock] at hg; omega)
          have hb4 : Below w2.heap.size w2 w4 := by
            first
              | exact hb3.grown hgrow4 hb3.size (fun g hg => (hown3.lt g hg).1)
              | exact (hb3.alloc hb3.size _).grown hgrow4 (by have := hb3.size; simp; omega) (fun g hg => (hown3.lt g hg).1)
          have HB4 := Lib.hid hb4
          clear hown3 hgrow3 hat3 hown4 hgrow4 hat4 hb3 hb4 ol0 ol1 nw0 nw1
          go_wp2_with fail
          go_meet
          exact ⟨by have h := HO4.out; rw [Nat.zero_add, List.nil_append] at h; exact h, HB4⟩
      case rest =>
        obtain ⟨HO4, HB4⟩ := hcut
        clear ol0 ol1 nw0 nw1 hw8 hw80 hshl hw32 hadd hpw
        have HB5 : Hid (Below w.heap.size w wc) := HB3.out.trans (HB4.out.mono HB3.out.size)
        have HA3 := Lib.hid (HA2.out.bel HB4.out)
        have HR3 := Lib.hid (HR.out.bel HB4.out)
        have HAD : Hid (Has wc (cutA A c q 1) (ints (xs.drop q))) := by
          rw [ints_drop]
          exact HA3.out.cutA (by rw [ints_length, HXL.out]; exact hkc)
        have HXD : Hid ((ints (xs.drop q)).length = k - q) := by
          show _ = _
          rw [ints_length, List.length_drop, HXL.out]
        go_wp2_with (first
          | (at_builtin; refine wpList_append_has _ rfl (.tmp 72) (.tmp 75) _ rfl w2.heap.size 3 i0 (.int .i64 0) 8 Try.underlying22 hi0 hz0 hz1 hz2 rfl _ (q + 1) _ rfl HO4.out _ (k - q) _ (ints (xs.drop q)) rfl HXD.out HAD.out (ints_one _) (by unfold maxLen; omega) (by omega) HB4.out.size ?_; intro v5 w5 hown5 hgrow5 _; have HO5 := Lib.hid hown5; have HG5 := Lib.hid hgrow5; clear hown5 hgrow5)
          | (at_builtin; refine wpList_append_has _ rfl (.tmp 76) (.tmp 77) _ rfl w2.heap.size 3 i0 (.int .i64 0) 8 Try.underlying22 hi0 hz0 hz1 hz2 rfl v5 (q + 1 + (k - q)) _ rfl (HO5.out.alloc _) _ 1 _ (ints [-1]) rfl rfl (Has.new w5 (ints [-1]) _ _) (ints_one _) (by unfold maxLen; omega) (by omega) (by have := HB4.out.size; have := HG5.out.size; simp only [World.size_alloc]; omega) ?_; intro v6 w6 hown6 hgrow6 _; have HO6 := Lib.hid hown6; have HG6 := Lib.hid hgrow6; clear hown6 hgrow6))
        have HB6 : Hid (Below w2.heap.size w2 w6) := by
          have h5 : Below w2.heap.size w2 w5 := HB4.out.grown HG5.out HB4.out.size (fun g hg => (HO4.out.lt g hg).1)
          exact (h5.alloc h5.size _).grown HG6.out (by have := h5.size; simp only [World.size_alloc]; omega) (fun g hg => (HO5.out.lt g hg).1)
        obtain ⟨A6, c6, rfl, hkc6, hcm6, hcl6, hcA6⟩ := Sl.of_own HO6.out
        have HD : Hid (Has w6 A6 (ints (xs.take q ++ [(P : Int) + a2] ++ xs.drop q ++ [-1]))) := by
          rw [ints_append, ints_append, ints_append]
          exact hcA6
        obtain ⟨HDL, HD1, HD2⟩ := bad_list xs k q s P a2 HXL HXS HP hqk ha2
        clear hcA6 hcl6 hcm6 hkc6
        refine (row_no _ _ _ _ _ _ HDL.out (by omega) HD.out hs1 hs2 q (by omega) (by rw [Int.toNat_natCast]; exact HD1.out) (by rw [Int.toNat_natCast]; exact HD2.out)).mono ?_
        rintro e w7 ⟨rfl, hb7⟩
        have HB7 : Hid (Below w2.heap.size w2 w7) := HB6.out.trans (hb7.mono HB6.out.size)
        have HB8 : Hid (Below w.heap.size w w7) := HB3.out.trans (HB7.out.mono HB3.out.size)
        have HA7 := Lib.hid (HA2.out.bel HB7.out)
        have HR7 := Lib.hid (HR.out.bel HB7.out)
        have HRL : Hid ((rowb s xs).length = T) := by
          show _ = _
          rw [rowb_length, HXL.out, HT.out]
        clear hb7 hq0 hq2 hq1 hq hP1 hP2 HD HDL HD1 HD2
        rcases (by omega : s = 1 ∨ s = 2 ∨ s = 3 ∨ s = 4) with h4 | h4 | h4 | h4
        all_goals subst h4
        · have hT0 : k * 1 = T := HT.out
          have hT1 : (T : Int) ≤ 1 * (k : Int) := by omega
          have hT2 : 1 * (k : Int) ≤ (T : Int) := by omega
          clear hT0
          go_wp2_with fail
          go_loop [17] (fun i => ∃ j : Nat, j ≤ k ∧ i = .int .i64 j) (fun i => k - (intOf i).toNat)
          case atStart => exact ⟨0, Nat.zero_le _, rfl⟩
          case round =>
            obtain ⟨j, hj, rfl⟩ := hrel
            by_cases hlt2 : j < k
            · have hjx : j < xs.length := by rw [HXL.out]; exact hlt2
              have HPI : Hid (((rowb 1 xs).drop (j)).take 1 = be 1 xs[j].toNat) := by
                have h := rowb_piece 1 xs j hjx
                rw [show j * 1 = j from by omega] at h
                exact h
              obtain ⟨hf0, hf1⟩ := HXS.out.2 _ (List.getElem_mem hjx)
              have HV : Hid ((val (((rowb 1 xs).drop (j)).take 1) : Int) = xs[j]) := by
                show _ = _
                rw [HPI.out, val_be_lt _ _ hf1]
                omega
              have HRD : Hid (Has w7 (cutA A2 c2 (j) 1) (vals ((rowb 1 xs).drop (j)))) := by
                rw [vals_drop]
                exact HR7.out.cutA (by rw [vals_length, HRL.out]; exact htc)
              have HRDL : Hid (((rowb 1 xs).drop (j)).length = T - j) := by
                show _ = _
                rw [List.length_drop, HRL.out]
              clear hf0 hf1
              go_wp2_with fail
              refine (take_ok _ _ _ _ _ _ HRDL.out (by unfold maxLen; omega) HRD.out (by omega) (by omega) (by omega)).mono ?_
              rintro e w' ⟨rfl, rfl⟩
              rw [show (1 : Int).toNat = 1 from rfl, HV.out]
              obtain ⟨ad, rfl, hcell⟩ := HA7.out.at_ (k := j) (by rw [ints_length]; exact hjx)
              rw [ints_at xs j hjx] at hcell
              go_wp2_with fail
              go_round
              case rel => exact ⟨j + 1, by omega, by go_num⟩
              case measure => simp [intOf]; omega
            · go_wp2
              go_ret
              exact ⟨rfl, HB8.out⟩
        · have hT0 : k * 2 = T := HT.out
          have hT1 : (T : Int) ≤ 2 * (k : Int) := by omega
          have hT2 : 2 * (k : Int) ≤ (T : Int) := by omega
          clear hT0
          go_wp2_with fail
          go_loop [17] (fun i => ∃ j : Nat, j ≤ k ∧ i = .int .i64 j) (fun i => k - (intOf i).toNat)
          case atStart => exact ⟨0, Nat.zero_le _, rfl⟩
          case round =>
            obtain ⟨j, hj, rfl⟩ := hrel
            by_cases hlt2 : j < k
            · have hjx : j < xs.length := by rw [HXL.out]; exact hlt2
              have HPI : Hid (((rowb 2 xs).drop (2 * j)).take 2 = be 2 xs[j].toNat) := by
                have h := rowb_piece 2 xs j hjx
                rw [show j * 2 = 2 * j from by omega] at h
                exact h
              obtain ⟨hf0, hf1⟩ := HXS.out.2 _ (List.getElem_mem hjx)
              have HV : Hid ((val (((rowb 2 xs).drop (2 * j)).take 2) : Int) = xs[j]) := by
                show _ = _
                rw [HPI.out, val_be_lt _ _ hf1]
                omega
              have HRD : Hid (Has w7 (cutA A2 c2 (2 * j) 1) (vals ((rowb 2 xs).drop (2 * j)))) := by
                rw [vals_drop]
                exact HR7.out.cutA (by rw [vals_length, HRL.out]; exact htc)
              have HRDL : Hid (((rowb 2 xs).drop (2 * j)).length = T - 2 * j) := by
                show _ = _
                rw [List.length_drop, HRL.out]
              clear hf0 hf1
              go_wp2_with fail
              refine (take_ok _ _ _ _ _ _ HRDL.out (by unfold maxLen; omega) HRD.out (by omega) (by omega) (by omega)).mono ?_
              rintro e w' ⟨rfl, rfl⟩
              rw [show (2 : Int).toNat = 2 from rfl, HV.out]
              obtain ⟨ad, rfl, hcell⟩ := HA7.out.at_ (k := j) (by rw [ints_length]; exact hjx)
              rw [ints_at xs j hjx] at hcell
              go_wp2_with fail
              go_round
              case rel => exact ⟨j + 1, by omega, by go_num⟩
              case measure => simp [intOf]; omega
            · go_wp2
              go_ret
              exact ⟨rfl, HB8.out⟩
        · have hT0 : k * 3 = T := HT.out
          have hT1 : (T : Int) ≤ 3 * (k : Int) := by omega
          have hT2 : 3 * (k : Int) ≤ (T : Int) := by omega
          clear hT0
          go_wp2_with fail
          go_loop [17] (fun i => ∃ j : Nat, j ≤ k ∧ i = .int .i64 j) (fun i => k - (intOf i).toNat)
          case atStart => exact ⟨0, Nat.zero_le _, rfl⟩
          case round =>
            obtain ⟨j, hj, rfl⟩ := hrel
            by_cases hlt2 : j < k
            · have hjx : j < xs.length := by rw [HXL.out]; exact hlt2
              have HPI : Hid (((rowb 3 xs).drop (3 * j)).take 3 = be 3 xs[j].toNat) := by
                have h := rowb_piece 3 xs j hjx
                rw [show j * 3 = 3 * j from by omega] at h
                exact h
              obtain ⟨hf0, hf1⟩ := HXS.out.2 _ (List.getElem_mem hjx)
              have HV : Hid ((val (((rowb 3 xs).drop (3 * j)).take 3) : Int) = xs[j]) := by
                show _ = _
                rw [HPI.out, val_be_lt _ _ hf1]
                omega
              have HRD : Hid (Has w7 (cutA A2 c2 (3 * j) 1) (vals ((rowb 3 xs).drop (3 * j)))) := by
                rw [vals_drop]
                exact HR7.out.cutA (by rw [vals_length, HRL.out]; exact htc)
              have HRDL : Hid (((rowb 3 xs).drop (3 * j)).length = T - 3 * j) := by
                show _ = _
                rw [List.length_drop, HRL.out]
              clear hf0 hf1
              go_wp2_with fail
              refine (take_ok _ _ _ _ _ _ HRDL.out (by unfold maxLen; omega) HRD.out (by omega) (by omega) (by omega)).mono ?_
              rintro e w' ⟨rfl, rfl⟩
              rw [show (3 : Int).toNat = 3 from rfl, HV.out]
              obtain ⟨ad, rfl, hcell⟩ := HA7.out.at_ (k := j) (by rw [ints_length]; exact hjx)
              rw [ints_at xs j hjx] at hcell
              go_wp2_with fail
              go_round
              case rel => exact ⟨j + 1, by omega, by go_num⟩
              case measure => simp [intOf]; omega
            · go_wp2
              go_ret
              exact ⟨rfl, HB8.out⟩
        · have hT0 : k * 4 = T := HT.out
          have hT1 : (T : Int) ≤ 4 * (k : Int) := by omega
          have hT2 : 4 * (k : Int) ≤ (T : Int) := by omega
          clear hT0
          go_wp2_with fail
          go_loop [17] (fun i => ∃ j : Nat, j ≤ k ∧ i = .int .i64 j) (fun i => k - (intOf i).toNat)
          case atStart => exact ⟨0, Nat.zero_le _, rfl⟩
          case round =>
            obtain ⟨j, hj, rfl⟩ := hrel
            by_cases hlt2 : j < k
            · have hjx : j < xs.length := by rw [HXL.out]; exact hlt2
              have HPI : Hid (((rowb 4 xs).drop (4 * j)).take 4 = be 4 xs[j].toNat) := by
                have h := rowb_piece 4 xs j hjx
                rw [show j * 4 = 4 * j from by omega] at h
                exact h
              obtain ⟨hf0, hf1⟩ := HXS.out.2 _ (List.getElem_mem hjx)
              have HV : Hid ((val (((rowb 4 xs).drop (4 * j)).take 4) : Int) = xs[j]) := by
                show _ = _
                rw [HPI.out, val_be_lt _ _ hf1]
                omega
              have HRD : Hid (Has w7 (cutA A2 c2 (4 * j) 1) (vals ((rowb 4 xs).drop (4 * j)))) := by
                rw [vals_drop]
                exact HR7.out.cutA (by rw [vals_length, HRL.out]; exact htc)
              have HRDL : Hid (((rowb 4 xs).drop (4 * j)).length = T - 4 * j) := by
                show _ = _
                rw [List.length_drop, HRL.out]
              clear hf0 hf1
              go_wp2_with fail
              refine (take_ok _ _ _ _ _ _ HRDL.out (by unfold maxLen; omega) HRD.out (by omega) (by omega) (by omega)).mono ?_
              rintro e w' ⟨rfl, rfl⟩
              rw [show (4 : Int).toNat = 4 from rfl, HV.out]
              obtain ⟨ad, rfl, hcell⟩ := HA7.out.at_ (k := j) (by rw [ints_length]; exact hjx)
              rw [ints_at xs j hjx] at hcell
              go_wp2_with fail
              go_round
              case rel => exact ⟨j + 1, by omega, by go_num⟩
              case measure => simp [intOf]; omega
            · go_wp2
              go_ret
              exact ⟨rfl, HB8.out⟩
end Go.Proofs.Ytnhhpdjcipfdjaa
