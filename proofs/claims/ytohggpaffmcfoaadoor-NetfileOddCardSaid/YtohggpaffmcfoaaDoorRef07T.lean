/- Contracts of package theseusref07: Take, Fit. -/
import Derived.Test.YtohggpaffmcfoaaDoorRef07
import Derived.Test.YtohggpaffmcfoaaDoorRulT
import Derived.Test.YtohggpaffmcfoaaDoorLow
import Derived.StillTailTactics
namespace Go.Proofs.YtohggpaffmcfoaaDoor
open Go.RowKit
set_option linter.unusedVariables false
set_option maxRecDepth 100000
set_option linter.unusedSimpArgs false
attribute [local go_sem ↓] sliced_cut
attribute [local go_sem] cutA_zero

theorem rrultake_no (A : Option Addr) (n c : Nat) (w : World) (hn : (n : Int) < 8) :
    Calls Tryd.prog 59 #[.slice A n c] w fun e w' => e = .returned (.tuple #[.agg #[.int .u32 0, .int .i64 0, .int .i64 0, .int .i64 0], .int .i64 2]) ∧ Below w.heap.size w w' := by
  go_enter Tryd.func59, Tryd.ntmps59
  go_wp2_with fail
  (try simp only [Exit.inBlock, Exit.then])
  exact bodyPost_ret (results_rule rfl _ _ w.heap.size 0 0 0 0 rfl (heap_alloc_new w _)) rfl ⟨rfl, (Below.refl w.heap.size w).alloc (Nat.le_refl _) _⟩
theorem val_one (l : List UInt8) (k : Nat) (h : k < l.length) : val ((l.drop k).take 1) = l[k].toNat := by
  rw [List.drop_eq_getElem_cons h, List.take_succ_cons, List.take_zero, ← List.nil_append [l[k]], val_snoc, val_nil]
  omega
set_option maxHeartbeats 4000000 in
theorem rrultake_ok (A : Option Addr) (n c : Nat) (l : List UInt8) (w : World) (hl : l.length = n) (hnc : n ≤ c) (hc : c ≤ maxLen) (hA : Has w A (vals l)) (hn : 8 ≤ (n : Int)) :
    Calls Tryd.prog 59 #[.slice A n c] w fun e w' => e = .returned (.tuple #[.agg #[.int .u32 (val (l.take 4)), .int .i64 (val ((l.drop 4).take 1)), .int .i64 (val ((l.drop 5).take 1)), .int .i64 (val ((l.drop 6).take 2))], .int .i64 0]) ∧ Below w.heap.size w w' := by
  obtain ⟨x0, hx0⟩ : ∃ x, val (l.take 4) = x := ⟨_, rfl⟩
  obtain ⟨x3, hx3⟩ : ∃ x, val ((l.drop 6).take 2) = x := ⟨_, rfl⟩
  have b0 : (x0 : Int) ≤ 4294967295 := by have := val_take_le l 4 4294967295 rfl; omega
  have b3 : (x3 : Int) ≤ 65535 := by have := val_take_le (l.drop 6) 2 65535 rfl; omega
  have HI : Hid (∀ wx, Below w.heap.size w wx → Has wx A (vals l)) := fun wx hx => hA.bel hx
  have K0 : Hid (∀ wx, Below w.heap.size w wx → Calls Tryd.prog 58 #[.slice A n c, .int .i64 4] wx fun e w' => e = .returned (.tuple #[.int .i64 x0, .int .i64 0]) ∧ wx = w') := fun wx hx => by
    have h := rtake_any (.slice A n c) l 4 wx ⟨_, _, _, rfl, hnc, hc, hl, HI.out wx hx⟩
    rw [takeS, if_pos ⟨by omega, by omega⟩, if_neg (by omega)] at h
    rw [← hx0]
    exact h
  have K3 : Hid (∀ wx, Below w.heap.size w wx → Calls Tryd.prog 58 #[.slice (cutA A c 6 1) (n - 6) (c - 6), .int .i64 2] wx fun e w' => e = .returned (.tuple #[.int .i64 x3, .int .i64 0]) ∧ wx = w') := fun wx hx => by
    have hh := (HI.out wx hx).cutA (k := 6) (cap := c) (by rw [vals_length]; omega)
    rw [← vals_drop] at hh
    have h := rtake_any (.slice (cutA A c 6 1) (n - 6) (c - 6)) (l.drop 6) 2 wx ⟨_, _, _, rfl, by omega, by omega, by rw [List.length_drop]; omega, hh⟩
    rw [takeS, if_pos ⟨by omega, by omega⟩, if_neg (by rw [List.length_drop]; omega)] at h
    rw [← hx3]
    exact h
  obtain ⟨ad, rfl, hcell⟩ := hA (by rw [vals_length]; omega)
  have d4 : val ((l.drop 4).take 1) = (l[4]'(by omega)).toNat := val_one l 4 (by omega)
  have d5 : val ((l.drop 5).take 1) = (l[5]'(by omega)).toNat := val_one l 5 (by omega)
  have hc4 : w.cell? (ad.add 4) = some (.int .u8 ((l[4]'(by omega)).toNat : Int)) := hcell 4 _ (by rw [List.getElem?_eq_getElem (by rw [vals_length]; omega), vals_at])
  have hc5 : w.cell? (ad.add 5) = some (.int .u8 ((l[5]'(by omega)).toNat : Int)) := hcell 5 _ (by rw [List.getElem?_eq_getElem (by rw [vals_length]; omega), vals_at])
  have g4 := (l[4]'(by omega)).toNat_lt
  have g5 := (l[5]'(by omega)).toNat_lt
  rw [hx0, hx3, d4, d5]
  generalize (l[4]'(by omega)).toNat = x1 at *
  generalize (l[5]'(by omega)).toNat = x2 at *
  have b1 : (x1 : Int) ≤ 255 := by omega
  have b2 : (x2 : Int) ≤ 255 := by omega
  have hp4 := World.block_lt_of_cell? w _ hc4
  have hp5 := World.block_lt_of_cell? w _ hc5
  clear hx0 hx3 HI hcell d4 d5 g4 g5 hl hA
  go_enter Tryd.func59, Tryd.ntmps59
  go_wp2_with fail
  refine (K0.out _ ((Below.refl w.heap.size w).alloc (Nat.le_refl _) _)).mono ?_
  rintro e1 wq ⟨rfl, rfl⟩
  go_wp2_with fail
  refine (K3.out _ ((Below.refl w.heap.size w).alloc (Nat.le_refl _) _)).mono ?_
  rintro e1 wq ⟨rfl, rfl⟩
  have hd4 : (w.alloc (.cells #[.int .u32 0, .int .i64 0, .int .i64 0, .int .i64 0] 47)).cell? (ad.add 4) = some (.int .u8 (x1 : Int)) := by rw [World.cell?_alloc_lt w _ _ hp4]; exact hc4
  have hd5 : (w.alloc (.cells #[.int .u32 0, .int .i64 0, .int .i64 0, .int .i64 0] 47)).cell? (ad.add 5) = some (.int .u8 (x2 : Int)) := by rw [World.cell?_alloc_lt w _ _ hp5]; exact hc5
  have HR := heap_alloc_new w (.cells #[.int .u32 0, .int .i64 0, .int .i64 0, .int .i64 0] 47)
  have HB := Lib.hid ((Below.refl w.heap.size w).alloc (Nat.le_refl _) (.cells #[.int .u32 0, .int .i64 0, .int .i64 0, .int .i64 0] 47))
  obtain ⟨g, hg⟩ : ∃ g, w.heap.size = g := ⟨_, rfl⟩
  have HGG := Lib.hid hg
  rw [hg] at HR HB
  rw [hg]
  clear hg K0 K3 hc4 hc5 hp4 hp5
  generalize w.alloc (.cells #[.int .u32 0, .int .i64 0, .int .i64 0, .int .i64 0] 47) = w1 at *
  go_upto_region 5 with fail
  have hd4 : w1.cell? ⟨ad.block, ad.off + 4, none⟩ = some (.int .u8 (x1 : Int)) := hd4
  have hd5 : w1.cell? ⟨ad.block, ad.off + 5, none⟩ = some (.int .u8 (x2 : Int)) := hd5
  have i4 : (4 : Int) < (n : Int) := by omega
  have i5 : (5 : Int) < (n : Int) := by omega
  have e0 : IntKind.u32.wrap (x0 : Int) = (x0 : Int) := by rw [IntKind.wrap_u32]; omega
  have e1 : IntKind.i64.wrap (x1 : Int) = (x1 : Int) := by rw [IntKind.wrap_i64]; omega
  have e2 : IntKind.i64.wrap (x2 : Int) = (x2 : Int) := by rw [IntKind.wrap_i64]; omega
  go_still_tail 12, (by kernel_rfl)
  change wpList _ _ _ _ _ w1.drew
  have HR2 : w1.drew.heap[g]? = some (.cells (rcs 0 0 0 0) 47 (0, 0)) := HR
  have HBd := Lib.hid HB.out.drew
  clear HR HB hd4 hd5
  generalize w1.drew = wd at *
  go_wp2_with (first | (refine wpList_store_row rfl 47 (.tmp 2) (.tmp 34) rfl g (rcs x0 x1 x2 x3) rfl rfl 47 (rcs 0 0 0 0) HR2 rfl rfl (by simp [rcs, Value.oneCell']) ?_))
  (try simp only [Exit.inBlock, Exit.then])
  exact bodyPost_ret (results_rule rfl _ _ g x0 x1 x2 x3 rfl (setRow_heap _ _ _ _ _ _ HR2)) rfl ⟨rfl, below_setRow (by rw [HGG.out]; exact HBd.out) (by rw [HGG.out]; exact Nat.le_refl _) _⟩
theorem rrultake_any (v : Value) (l : List UInt8) (w : World) (hv : IsB w v l) :
    Calls Tryd.prog 59 #[v] w fun e w' => e = .returned (.tuple #[.agg #[.int .u32 ((takeR l).1.at_ : Int), .int .i64 ((takeR l).1.len : Int), .int .i64 ((takeR l).1.act : Int), .int .i64 ((takeR l).1.nxt : Int)], .int .i64 (takeR l).2]) ∧ Below w.heap.size w w' := by
  obtain ⟨A, n, c, rfl, hnc, hcm, hl, hA⟩ := hv
  by_cases h8 : 8 ≤ n
  · rw [takeR_long (by omega)]
    exact rrultake_ok A n c l w hl hnc hcm hA (by omega)
  · rw [takeR_short (by omega)]
    exact rrultake_no A n c w (by omega)
end Go.Proofs.YtohggpaffmcfoaaDoor
