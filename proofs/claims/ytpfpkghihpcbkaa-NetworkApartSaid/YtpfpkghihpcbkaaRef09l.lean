/- Contract of package theseusref09: Loop. -/
import Derived.Test.YtpfpkghihpcbkaaRef09
namespace Go.Proofs.Ytpfpkghihpcbkaa
open Go.RowKit
set_option linter.unusedVariables false
set_option linter.unusedSimpArgs false

theorem int_info : (Try.prog.info? 3).map (fun i => (i.zero, i.size, i.bytes)) = some (some (.int .i64 0), 1, 8) := by kernel_rfl
theorem lpFrom_at (N : Nt) (a k : Nat) (hk : k < N.length) : lpFrom N a (N.length - k) k = match lpAt N a k with
    | some l => some l
    | none => lpFrom N a (N.length - (k + 1)) (k + 1) := by
  rw [show N.length - k = (N.length - (k + 1)) + 1 by omega]
  rfl
theorem chase_back {N : Nt} {a : Nat} {v : Int} {f : Nat} {acc : List Int} : chase N a v f (some v) acc = some acc := by cases f <;> simp [chase]
theorem chase_end {N : Nt} {a : Nat} {v y : Int} {acc : List Int} (h : y ≠ v) : chase N a v 0 (some y) acc = none := by simp [chase, h]
theorem chase_on {N : Nt} {a : Nat} {v y : Int} {f : Nat} {acc : List Int} (h : y ≠ v) : chase N a v (f + 1) (some y) acc = chase N a v f (stN N a y) (acc ++ [y]) := by simp [chase, h]
set_option maxHeartbeats 8000000 in
theorem rloop_any (v : Value) (N : Nt) (a : Nat) (w : World) (hv : IsN w v N) (ha : (a : Int) ≤ 4294967295) (hwf : WfN N) (hB : N.length ≤ 1000) :
    Calls Try.prog 13 #[v, .int .u32 (a : Int)] w fun e w' => ∃ u, e = .returned (.tuple #[u, .bool (lpN N a).isSome]) ∧ IsI w' u ((lpN N a).getD []) ∧ Below w.heap.size w w' := by
  obtain ⟨A, c, rfl, hc, hm, hS⟩ := hv.slice
  obtain ⟨n, hn⟩ : ∃ n, N.length = n := ⟨_, rfl⟩
  rw [hn] at hc hS hB ⊢
  have HN := Lib.hid hn
  have hnm : (n : Int) ≤ 1000 := by omega
  have HB0 : Hid (Below w.heap.size w (w.alloc (.cells #[.slice A n c] 24))) := (Below.refl _ _).alloc (Nat.le_refl _) _
  have HK0 := Lib.hid (Blk.new w #[.slice A n c] 24)
  have CS := Lib.hid (fun u w' (hx : Below w.heap.size w w') => rstep_any (.agg #[.slice A n c]) N a u w' (hS.bel hx).mk ha hwf)
  have HII := Lib.hid int_info
  have HL0 : Hid (lpN N a = lpFrom N a (n - 0) 0) := by show _ = _; unfold lpN; rw [hn]; rfl
  obtain ⟨g, hg⟩ : ∃ g, w.heap.size = g := ⟨_, rfl⟩
  rw [hg] at HK0
  clear hv hS hn hc hm hB
  go_enter Try.func13, Try.ntmps13
  go_wp2
  clear hg
  generalize w.alloc (.cells #[.slice A n c] 24) = w1 at *
  go_loopw [6] (fun i wr => ∃ k : Nat, k ≤ n ∧ i = .int .i64 k ∧ Hid (lpN N a = lpFrom N a (n - k) k) ∧ Hid (Blk g #[.slice A n c] 24 wr) ∧ Hid (Below w.heap.size w wr)) (fun i _ => n - (intOf i).toNat)
  case atStart => exact ⟨0, by omega, rfl, HL0, HK0, HB0⟩
  case round =>
    clear HL0 HK0 HB0
    obtain ⟨k, hk, rfl, HLP, HK, HB⟩ := hrel
    generalize wr = wo at *
    have q0 := HK.out.cell 0 rfl
    by_cases hlt : k < n
    · have hkl : k < N.length := by rw [HN.out]; exact hlt
      have hki : (k : Int) < (n : Int) := by omega
      have hs := lpFrom_at N a k hkl
      rw [HN.out] at hs
      have HS2 : Hid (lpN N a = match lpAt N a k with
        | some l => some l
        | none => lpFrom N a (n - (k + 1)) (k + 1)) := HLP.out.trans hs
      have HAT : Hid (lpAt N a k = chase N a k (n - 1) (stN N a k) [(k : Int)]) := by show _ = _; unfold lpAt; rw [HN.out]
      have C := Lib.hid (CS.out (k : Int))
      clear hs HLP
      go_upto_region 5 with fail
      obtain ⟨s0, hs0⟩ : ∃ s, wo.heap.size = s := ⟨_, rfl⟩
      have HSZ := Lib.hid hs0
      have HO1 : Hid ((wo.alloc (.cells #[.int .i64 (k : Int)] 3)).ownsRow s0 3 1 (.slice (some ⟨s0, 0, none⟩) 1 1) 1 (ints [(k : Int)])) := by
        subst hs0
        exact World.ownsRow_lit (e := 3) (size := 1) wo #[.int .i64 (k : Int)] 1 (Nat.le_refl _) (by decide) rfl
      have HB1 : Hid (Below wo.heap.size wo (wo.alloc (.cells #[.int .i64 (k : Int)] 3))) := (Below.refl _ _).alloc (Nat.le_refl _) _
      rw [hs0]
      have hso : g < s0 := by have := HK.out.size; omega
      clear hs0
      generalize wo.alloc (.cells #[.int .i64 (k : Int)] 3) = w2 at *
      have q1 := (HK.out.bel HB1.out).cell 0 rfl
      clear q0
      go_wp2_with fail
      refine (C.out w2 (HB.out.trans (HB1.out.mono HB.out.size))).mono ?_
      rintro e1 w3 ⟨rfl, hb⟩
      have HB3 := Lib.hid (HB1.out.trans (hb.mono HB1.out.size))
      have HO3 := Lib.hid (own_bel HO1.out hb)
      clear hb HB1 HO1 C q1
      go_wp2_with fail
      go_loopw [7, 8, 9, 10] (fun x y b i wr => ∃ j : Nat, ∃ o : Option Int, ∃ acc : List Int, 1 ≤ j ∧ j ≤ n ∧ i = .int .i64 j ∧ y = .int .i64 (resO o).1 ∧ b = .bool (resO o).2 ∧ acc.length = j ∧ Hid (lpAt N a k = chase N a k (n - j) o acc) ∧ Hid (wr.ownsRow s0 3 1 x j (ints acc)) ∧ Hid (Below wo.heap.size wo wr)) (fun _ _ _ i _ => n - (intOf i).toNat)
      case atStart => exact ⟨1, _, [(k : Int)], by omega, by omega, rfl, rfl, rfl, rfl, HAT, HO3, HB3⟩
      case round =>
        clear HAT HO3 HB3
        obtain ⟨j, o, acc, hj1, hjn, rfl, rfl, rfl, hacc, HC, HO, HBi⟩ := hrel
        have q0 := (HK.out.bel HBi.out).cell 0 rfl
        have hjz : (0 : Int) ≤ (j : Int) := by omega
        cases o with
        | none =>
          have HE : Hid (lpN N a = lpFrom N a (n - (k + 1)) (k + 1)) := by
            show _ = _
            have h : lpAt N a k = none := HC.out.trans (by cases (n - j) <;> rfl)
            rw [HS2.out, h]
          have HK2 := Lib.hid (HK.out.bel HBi.out)
          have HB2 := Lib.hid (HB.out.trans (HBi.out.mono HB.out.size))
          clear HC HS2 HO HBi HK HB
          rw [resO_none]
          rcases (by omega : j < n ∨ j = n) with hjlt | hjlt
          · have hji : (j : Int) < (n : Int) := by omega
            go_wp2_with fail
            go_roundw
            case rel => exact ⟨k + 1, by omega, by go_num, HE, HK2, HB2⟩
            case measure => simp [intOf]; omega
          · have hji : ¬ (j : Int) < (n : Int) := by omega
            go_wp2_with fail
            go_roundw
            case rel => exact ⟨k + 1, by omega, by go_num, HE, HK2, HB2⟩
            case measure => simp [intOf]; omega
        | some y =>
          rw [resO_some]
          by_cases hy : y = (k : Int)
          · subst hy
            have HE : Hid (lpN N a = some acc) := by
              show _ = _
              have h : lpAt N a k = some acc := HC.out.trans chase_back
              rw [HS2.out, h]
            have t1 : (((k : Int)) != (k : Int)) = false := by simp
            have t2 : (((k : Int)) == (k : Int)) = true := by simp
            have HB2 := Lib.hid (HB.out.trans (HBi.out.mono HB.out.size))
            clear HC HS2 HBi HK HB
            rcases (by omega : j < n ∨ j = n) with hjlt | hjlt
            · have hji : (j : Int) < (n : Int) := by omega
              go_wp2_with fail
              go_ret2
              exact ⟨_, by rw [HE.out]; rfl, by rw [HE.out]; exact IsI.of_own HO.out, HB2.out⟩
            · have hji : ¬ (j : Int) < (n : Int) := by omega
              go_wp2_with fail
              go_ret2
              exact ⟨_, by rw [HE.out]; rfl, by rw [HE.out]; exact IsI.of_own HO.out, HB2.out⟩
          · have t1 : (y != (k : Int)) = true := by rw [bne_iff_ne]; exact hy
            have t2 : (y == (k : Int)) = false := by rw [beq_eq_false_iff_ne]; exact hy
            rcases (by omega : j < n ∨ j = n) with hjlt | hjlt
            · have hji : (j : Int) < (n : Int) := by omega
              have HC2 : Hid (lpAt N a k = chase N a k (n - (j + 1)) (stN N a y) (acc ++ [y])) := by
                show _ = _
                rw [HC.out, show n - j = (n - (j + 1)) + 1 by omega]
                exact chase_on hy
              have C := Lib.hid (CS.out y)
              obtain ⟨i0, hi0, hz0, hz1, hz2⟩ := info_parts HII.out
              have HBA : Hid (Below wo.heap.size wo (wr.alloc (.cells #[.int .i64 y] 3))) := HBi.out.alloc HBi.out.size _
              have HOA : Hid ((wr.alloc (.cells #[.int .i64 y] 3)).ownsRow s0 3 1 u7 j (ints acc)) := own_bel HO.out ((Below.refl _ _).alloc (Nat.le_refl _) _)
              have HNW : Hid (Has (wr.alloc (.cells #[.int .i64 y] 3)) (some ⟨wr.heap.size, 0, none⟩) (ints [y])) := Has.new wr (ints [y]) 3 (0, 0)
              have hsz : s0 ≤ wr.heap.size := by have := HBi.out.size; have h := HSZ.out; omega
              clear HC HO
              go_upto_region 10 with (first
                | (at_builtin; refine wpList_append_has _ rfl (.tmp 42) (.tmp 44) _ rfl s0 3 i0 (.int .i64 0) 8 Try.underlying29 hi0 hz0 hz1 hz2 rfl u7 j (ints acc) rfl HOA.out _ 1 _ (ints [y]) rfl rfl HNW.out (ints_one _) (by unfold maxLen; omega) (by omega) (by simp only [World.size_alloc]; omega) ?_; intro v4 w4 hown4 hgrow4 _; have HO4 := Lib.hid hown4; have HG4 := Lib.hid hgrow4; clear hown4 hgrow4))
              have HB4 : Hid (Below wo.heap.size wo w4) := HBA.out.grown HG4.out HBA.out.size (fun q hq => by have := (HOA.out.lt q hq).1; rw [HSZ.out]; exact this)
              have HO4b : Hid (w4.ownsRow s0 3 1 v4 (j + 1) (ints (acc ++ [y]))) := by
                have h := HO4.out
                rw [← ints_append] at h
                exact h
              have q1 := (HK.out.bel HB4.out).cell 0 rfl
              clear HO4 HG4 HBA HOA HNW q0 HBi
              go_wp2_with fail
              refine (C.out w4 (HB.out.trans (HB4.out.mono HB.out.size))).mono ?_
              rintro e1 w5 ⟨rfl, hb⟩
              have HB5 := Lib.hid (HB4.out.trans (hb.mono HB4.out.size))
              have HO5 := Lib.hid (own_bel HO4b.out hb)
              clear hb HB4 HO4b C q1
              go_wp2_with fail
              go_roundw
              case rel => exact ⟨j + 1, _, acc ++ [y], by omega, by omega, by go_num, rfl, rfl, by simp [hacc], HC2, HO5, HB5⟩
              case measure => simp [intOf]; omega
            · subst hjlt
              have HE : Hid (lpN N a = lpFrom N a (j - (k + 1)) (k + 1)) := by
                show _ = _
                have h : lpAt N a k = none := HC.out.trans (by rw [Nat.sub_self]; exact chase_end hy)
                rw [HS2.out, h]
              have hji : ¬ (j : Int) < (j : Int) := by omega
              have HK2 := Lib.hid (HK.out.bel HBi.out)
              have HB2 := Lib.hid (HB.out.trans (HBi.out.mono HB.out.size))
              clear HC HS2 HO HBi HK HB
              go_wp2_with fail
              go_roundw
              case rel => exact ⟨k + 1, by omega, by go_num, HE, HK2, HB2⟩
              case measure => simp [intOf]; omega
    · obtain rfl : k = n := by omega
      have HE : Hid (lpN N a = none) := by
        show _ = _
        rw [HLP.out, Nat.sub_self]
        rfl
      go_wp2_with fail
      go_ret2
      exact ⟨_, by rw [HE.out]; rfl, by rw [HE.out]; exact IsI.nil_ _, HB.out⟩
end Go.Proofs.Ytpfpkghihpcbkaa
