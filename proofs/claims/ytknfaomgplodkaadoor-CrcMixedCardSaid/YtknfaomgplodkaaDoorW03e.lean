/- The walks of the laws of package theseuslaw03: CrcMixed. -/
import Derived.Test.YtknfaomgplodkaaDoorL03
import Derived.Test.YtknfaomgplodkaaDoorFrame
import Derived.StillTailTactics
import Derived.Deep.RegionHeld3
import Derived.Deep.DrawnRows
import Derived.Lib.SmallJoins
namespace Go.Proofs.YtknfaomgplodkaaDoor
open Go.RowKit
set_option linter.unusedVariables false
set_option linter.unusedSimpArgs false
attribute [local go_sem ↓] Go.wp_at_zero Go.wp_at_succ

/-- what the new bytes are behind k rounds -/
def mixP (X Y : List UInt8) (m k : Nat) : List UInt8 := (mixN X Y).take k ++ List.replicate (m - k) 0
theorem mixN_length (X Y : List UInt8) (h : X.length = Y.length) : (mixN X Y).length = X.length := by simp [mixN, h]
theorem mixP_zero (X Y : List UInt8) (m : Nat) : mixP X Y m 0 = List.replicate m 0 := by simp [mixP]
theorem mixP_all (X Y : List UInt8) (m : Nat) (hx : X.length = m) (hy : Y.length = m) : mixP X Y m m = mixN X Y := by
  have := mixN_length X Y (by omega)
  rw [mixP, Nat.sub_self, List.replicate_zero, List.append_nil, List.take_of_length_le (by omega)]
theorem mixP_length (X Y : List UInt8) (m k : Nat) (hx : X.length = m) (hy : Y.length = m) (hk : k ≤ m) : (mixP X Y m k).length = m := by
  have := mixN_length X Y (by omega)
  simp [mixP]; omega
theorem mixP_cell (X Y : List UInt8) (m k : Nat) (hx : X.length = m) (hy : Y.length = m) (hk : k < m) : (vals (mixP X Y m k)).toArray[k]? = some (.int .u8 0) := by
  have := mixN_length X Y (by omega)
  simp only [List.getElem?_toArray, vals, List.getElem?_map, mixP]
  rw [List.getElem?_append_right (by simp; omega), List.getElem?_replicate, if_pos (by simp; omega)]
  rfl
theorem mixP_set (X Y : List UInt8) (m k : Nat) (hx : X.length = m) (hy : Y.length = m) (hk : k < m) :
    (vals (mixP X Y m k)).toArray.setIfInBounds k (.int .u8 ((X[k].toNat ^^^ Y[k].toNat : Nat) : Int)) = (vals (mixP X Y m (k + 1))).toArray := by
  have hl := mixN_length X Y (by omega)
  have e : mixP X Y m (k + 1) = (mixP X Y m k).set k (X[k] ^^^ Y[k]) := by
    unfold mixP
    rw [List.take_succ_eq_append_getElem (by omega)]
    obtain ⟨d, hd⟩ : ∃ d, m - k = d + 1 := ⟨m - k - 1, by omega⟩
    rw [hd, show m - (k + 1) = d from by omega, List.replicate_succ, List.append_assoc]
    rw [List.set_append_right _ _ (by simp; omega)]
    rw [show k - (List.take k (mixN X Y)).length = 0 from by simp; omega, List.set_cons_zero]
    simp [mixN]
  rw [e]
  simp [vals, List.map_set, UInt8.toNat_xor]
theorem sum_at (v : Value) (l : List UInt8) (x : Nat) (w : World) (hs : Hid (sumN l = x)) (hv : IsB w v l) (ht : Hid (Tab w)) :
    Calls Tryd.prog 9 #[v] w fun e w' => e = .returned (.int .u32 x) ∧ w = w' := by
  rw [← hs.out]
  exact sum_any v l w hv ht
theorem IsB.alloc_ {w : World} {v : Value} {l : List UInt8} (h : IsB w v l) (o : Obj) : IsB (w.alloc o) v l := h.bel ((Below.refl _ _).alloc (Nat.le_refl _) _)
theorem Tab.alloc_ {w : World} (h : Hid (Tab w)) (o : Obj) : Hid (Tab (w.alloc o)) := h.out.bel ((Below.refl _ _).alloc (Nat.le_refl _) _)
theorem sum_pack (l : List UInt8) : ∃ x : Nat, Hid (sumN l = x) ∧ x < 4294967296 := ⟨_, rfl, by have := moreN_le 0 l; unfold sumN; omega⟩
set_option maxRecDepth 100000 in
set_option maxHeartbeats 2000000 in
theorem walkCrcMixed (a0 : Option Addr) (n0 c0 : Nat) (l0 : List UInt8) (a1 : Option Addr) (n1 c1 : Nat) (l1 : List UInt8) (w : World) (ht : Hid (Tab w)) (w0 : InB w a0 n0 c0 l0) (w1 : InB w a1 n1 c1 l1) :
    Calls Tryd.prog 6 #[.slice a0 n0 c0, .slice a1 n1 c1] w fun e w' => e = .returned (.bool true) ∧ Below w.heap.size w w' := by
  have fw0 := fun (W : World) => few3 a0 n0 c0 W w0.cap w0.max
  have fw1 := fun (W : World) => few3 a1 n1 c1 W w1.cap w1.max
  obtain ⟨hlen0, hcap0, hmax0, hhas0⟩ := w0
  obtain ⟨hlen1, hcap1, hmax1, hhas1⟩ := w1
  obtain ⟨m, hm⟩ : ∃ m, min (min n0 100) (min n1 100) = m := ⟨_, rfl⟩
  have hmi : (min n1 100 < min n0 100 ∧ m = min n1 100) ∨ (¬ min n1 100 < min n0 100 ∧ m = min n0 100) := by omega
  have hl0 : (l0.take m).length = m := by rw [List.length_take, hlen0]; omega
  have hl1 : (l1.take m).length = m := by rw [List.length_take, hlen1]; omega
  have hh0 : Has w a0 (vals (l0.take m)) := by rw [vals_take]; exact Has.take hhas0 m
  have hh1 : Has w a1 (vals (l1.take m)) := by rw [vals_take]; exact Has.take hhas1 m
  have hm0 : m ≤ n0 := by omega
  have hm1 : m ≤ n1 := by omega
  have hmh : (m : Int) ≤ 100 := by omega
  have hq0 : (m : Int) ≤ n0 := by omega
  have hq1 : (m : Int) ≤ n1 := by omega
  have hr0 : (m : Int) ≤ c0 := by omega
  have hr1 : (m : Int) ≤ c1 := by omega
  have hc0 : m ≤ c0 := by omega
  have hc1 : m ≤ c1 := by omega
  clear hlen0 hhas0 hlen1 hhas1 hm
  generalize l0.take m = X at *
  generalize l1.take m = Y at *
  generalize min n0 100 = m0 at *
  generalize min n1 100 = m1 at *
  have FW0 := Lib.hid fw0
  have FW1 := Lib.hid fw1
  have HL0 := Lib.hid hl0
  have HL1 := Lib.hid hl1
  have HH0 := Lib.hid hh0
  have HH1 := Lib.hid hh1
  have HX0 := Lib.hid hmax0
  have HX1 := Lib.hid hmax1
  have HC0 := Lib.hid hc0
  have HC1 := Lib.hid hc1
  obtain ⟨i0, hi0, hz0, hz1, hz2⟩ := info_parts byte_info
  have hmk : ∀ W, (Instr.makeSlice 22 (.int .i64 (m : Int)) (.int .i64 (m : Int))).run Tryd.prog W = .ok (.slice (some ⟨W.heap.size, 0, none⟩) m m) (W.alloc (.cells (vals (List.replicate m 0)).toArray 5)) := fun W => by
    have := run_make (P := Tryd.prog) W 22 5 i0 (.int .u8 0) Tryd.underlying22 hi0 hz0 .i64 .i64 m m (by omega) (by omega) (by rw [hz2]; omega) (by omega)
    rw [this, hz1]
    have e : madeCells (Value.cells (.int .u8 0)) ((m : Int).toNat * 1) = (vals (List.replicate m 0)).toArray := by
      apply Array.toList_inj.1
      rw [show Value.cells (.int .u8 0) = #[.int .u8 0] from rfl, toList_madeCells_one]
      simp [vals]
    rw [e, Int.toNat_natCast]
  have HMK := Lib.hid hmk
  clear fw0 fw1 hl0 hl1 hh0 hh1 hmax0 hmax1 hc0 hc1 hi0 hz0 hz1 hz2 hmk hcap0 hcap1
  have core : ∀ (_ : (m1 < m0 ∧ m = m1) ∨ (¬ m1 < m0 ∧ m = m0)), Calls Tryd.prog 6 #[.slice a0 n0 c0, .slice a1 n1 c1] w fun e w' => e = .returned (.bool true) ∧ Below w.heap.size w w' := by
    clear hmi
    intro hmi
    rcases hmi with ⟨hlt, hme⟩ | ⟨hlt, hme⟩
    all_goals
      subst hme
      go_enter Tryd.func6, Tryd.ntmps6
      go_wp2_with fail
      refine (shown3 _ ht).mono ?_
      rintro e w1 ⟨rfl, hb1⟩
      have HB1 := Lib.hid hb1
      clear hb1
      go_wp2_with fail
      refine (FW0.out _).mono ?_
      rintro e w' ⟨rfl, rfl⟩
      go_wp2_with fail
      refine (FW1.out _).mono ?_
      rintro e w' ⟨rfl, rfl⟩
      have hmk := HMK.out
      go_wp2_with fail
      clear hmk hlt
      have hblk : (w1.alloc (.cells (vals (List.replicate m 0)).toArray 5)).heap[w1.heap.size]? = some (.cells (vals (List.replicate m 0)).toArray 5 (0, 0)) := by
        show (w1.heap.push _)[w1.heap.size]? = _
        simp
      have HK := Lib.hid hblk
      have HB2 := Lib.hid (HB1.out.alloc HB1.out.size (.cells (vals (List.replicate m 0)).toArray 5))
      have HG : Hid (w.heap.size ≤ w1.heap.size) := HB1.out.size
      clear hblk
      generalize w1.alloc (.cells (vals (List.replicate m 0)).toArray 5) = W2 at *
      generalize w1.heap.size = g at *
      go_loopw [8] (fun i wr => ∃ k : Nat, k ≤ m ∧ i = .int .i64 k ∧ Hid (Below w.heap.size w wr) ∧ Hid (wr.heap[g]? = some (.cells (vals (mixP X Y m k)).toArray 5 (0, 0)))) (fun i _ => m - (intOf i).toNat)
      case atStart => exact ⟨0, Nat.zero_le _, rfl, HB2, by show _ = _; rw [mixP_zero]; exact HK.out⟩
      case round =>
        obtain ⟨k, hk, rfl, HBe, HBk⟩ := hrel
        clear HK HB2
        by_cases hlt : k < m
        · have hkx : k < X.length := by rw [HL0.out]; exact hlt
          have hky : k < Y.length := by rw [HL1.out]; exact hlt
          obtain ⟨ad, rfl, hcx⟩ := (HH0.out.bel HBe.out).at_ (k := k) (by rw [vals_length]; exact hkx)
          obtain ⟨bd, rfl, hcy⟩ := (HH1.out.bel HBe.out).at_ (k := k) (by rw [vals_length]; exact hky)
          rw [vals_at _ _ hkx] at hcx
          rw [vals_at _ _ hky] at hcy
          have hcg : wr.cell? ⟨g, k, none⟩ = some (.int .u8 0) := by
            rw [Joins.cell_of_block HBk.out]
            exact mixP_cell X Y m k HL0.out HL1.out hlt
          have hfg : wr.frozen? ⟨g, k, none⟩ = false := Joins.unfrozen_of_block HBk.out k
          have HSET := Lib.hid (mixP_set X Y m k HL0.out HL1.out hlt)
          have hx1 := u8_xor_nat X[k].toNat Y[k].toNat X[k].toNat_lt Y[k].toNat_lt
          generalize X[k].toNat = x at *
          generalize Y[k].toNat = y at *
          have hk0 : (0 : Int) ≤ (k : Int) := by omega
          have hkm : (k : Int) < (m : Int) := by omega
          have hkn0 : (k : Int) < (n0 : Int) := by omega
          have hkn1 : (k : Int) < (n1 : Int) := by omega
          go_wp2_with fail
          go_still_tail 12, (by kernel_rfl)
          change wpList _ _ _ _ _ wr.drew
          have hcg2 : wr.drew.cell? ⟨g, k, none⟩ = some (.int .u8 0) := hcg
          have hfg2 : wr.drew.frozen? ⟨g, k, none⟩ = false := hfg
          have HBd := Lib.hid HBe.out.drew
          have HBk2 : Hid (wr.drew.heap[g]? = some (.cells (vals (mixP X Y m k)).toArray 5 (0, 0))) := HBk.out
          clear hcg hfg hcx hcy HBe HBk
          generalize wr.drew = wd at *
          go_wp2_with fail
          go_roundw
          case rel => exact ⟨k + 1, by omega, by go_num, HBd.out.setCell (by have := HG.out; simpa using this) _, by show _ = _; rw [Joins.block_setCell HBk2.out, HSET.out]⟩
          case measure => simp [intOf]; omega
        · have hkm : k = m := by omega
          subst hkm
          clear hlt
          have HBk2 : Hid (wr.heap[g]? = some (.cells (vals (mixN X Y)).toArray 5 (0, 0))) := by
            have h := HBk.out
            rw [mixP_all X Y k HL0.out HL1.out] at h
            exact h
          have HMX : Hid (IsB wr (.slice (some ⟨g, 0, none⟩) k k) (mixN X Y)) := ⟨_, _, _, rfl, Nat.le_refl _, by have := HC0.out; have := HX0.out; omega, by rw [mixN_length X Y (by rw [HL0.out, HL1.out])]; exact HL0.out, fun _ => ⟨_, rfl, fun j u hu => by rw [add_plain, Nat.zero_add, Joins.cell_of_block HBk2.out, List.getElem?_toArray]; exact hu⟩⟩
          have HI0 : Hid (IsB wr (.slice a0 k c0) X) := ⟨_, _, _, rfl, HC0.out, HX0.out, HL0.out, HH0.out.bel HBe.out⟩
          have HI1 : Hid (IsB wr (.slice a1 k c1) Y) := ⟨_, _, _, rfl, HC1.out, HX1.out, HL1.out, HH1.out.bel HBe.out⟩
          have HT3 := Lib.hid (ht.out.bel HBe.out)
          have hmk := HMK.out
          clear HBk HBk2
          obtain ⟨sx, HSX, hx1⟩ := sum_pack X
          obtain ⟨sy, HSY, hy1⟩ := sum_pack Y
          obtain ⟨sm, HSM, hm1⟩ := sum_pack (mixN X Y)
          obtain ⟨sz, HSZ, hz1⟩ := sum_pack (List.replicate k 0)
          have e1 := u32_xor_nat sx sy hx1 hy1
          have e2 := u32_xor_nat sm sz hm1 hz1
          have he : sx ^^^ sy = sm ^^^ sz := by rw [← HSX.out, ← HSY.out, ← HSM.out, ← HSZ.out, ← HL0.out]; exact sumN_mix X Y (by rw [HL0.out, HL1.out])
          rw [← he] at e2
          clear he hx1 hy1 hm1 hz1
          generalize sx ^^^ sy = R at *
          go_wp2_with fail
          go_region_held3 (fun w' => True) (trivial)
            (first
              | (go_at_call 9; (with_reducible refine (sum_at (.slice a0 k c0) (X) sx _ HSX ?_ ?_).mono ?_); (first | exact HI0.out | exact HI0.out.alloc_ _); (first | exact HT3 | exact Tab.alloc_ HT3 _); rintro e w' ⟨rfl, rfl⟩)
              | (go_at_call 9; (with_reducible refine (sum_at (.slice a1 k c1) (Y) sy _ HSY ?_ ?_).mono ?_); (first | exact HI1.out | exact HI1.out.alloc_ _); (first | exact HT3 | exact Tab.alloc_ HT3 _); rintro e w' ⟨rfl, rfl⟩)
              | (go_at_call 9; (with_reducible refine (sum_at (.slice (some ⟨g, 0, none⟩) k k) (mixN X Y) sm _ HSM ?_ ?_).mono ?_); (first | exact HMX.out | exact HMX.out.alloc_ _); (first | exact HT3 | exact Tab.alloc_ HT3 _); rintro e w' ⟨rfl, rfl⟩)
              | (go_at_call 9; (with_reducible refine (sum_at _ (List.replicate k 0) sz _ HSZ ?_ ?_).mono ?_); (exact IsB.new _ _ _ _ _ (by simp) (by unfold maxLen; omega)); (first | exact HT3 | exact Tab.alloc_ HT3 _); rintro e w' ⟨rfl, rfl⟩))
          all_goals
            go_wp2_with fail
            go_ret
            first
              | exact ⟨rfl, HBe.out.drew.alloc HBe.out.size _⟩
              | exact ⟨rfl, (HBe.out.alloc HBe.out.size _).drew⟩
  exact core hmi
end Go.Proofs.YtknfaomgplodkaaDoor
