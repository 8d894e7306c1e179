/- Contract of package rule: Take. -/
import Derived.Test.YtohggpaffmcfoaaDoorRul
import Derived.Test.YtohggpaffmcfoaaDoorRulM
import Derived.Test.YtohggpaffmcfoaaDoorRcs
import Derived.Deep.DeepCutAuto
import Derived.Laws.EntriesVeiled
import Derived.Laws.ResultCell
import Derived.Laws.Rows
import Derived.Laws.CopyOwn
namespace Go.Proofs.YtohggpaffmcfoaaDoor
open Go.RowKit
set_option linter.unusedVariables false
set_option maxRecDepth 100000
set_option linter.unusedSimpArgs false
attribute [local go_sem ↓] sliced_cut
attribute [local go_sem] cutA_zero

/-- what stands in memory while Take goes over the fields: the rule's block, the fields', and all that there was -/
structure TW (w : World) (g : Nat) (a l c n : Int) (wx : World) : Prop where
  rul : wx.heap[g]? = some (.cells (rcs a l c n) 47 (0, 0))
  fld : wx.heap[g + 1]? = some (.cells fieldCells 73 (0, 0))
  bel : Below g w wx
section
variable {w wx wy : World} {g : Nat} {a l c n : Int}
theorem TW.next (h : TW w g a l c n wx) (hb : Below wx.heap.size wx wy) : TW w g a l c n wy := by
  have h1 := (Array.getElem?_eq_some_iff.1 h.rul).1
  have h2 := (Array.getElem?_eq_some_iff.1 h.fld).1
  exact ⟨by rw [hb.block g h1]; exact h.rul, by rw [hb.block _ h2]; exact h.fld, h.bel.trans (hb.mono (by omega))⟩
theorem TW.fcell (h : TW w g a l c n wx) (j : Nat) : wx.cell? ⟨g + 1, j, none⟩ = fieldCells[j]? := Joins.cell_of_block h.fld j
theorem TW.set (h : TW w g a l c n wx) (j : Nat) (v : Value) {a' l' c' n' : Int} (he : (rcs a l c n).setIfInBounds j v = rcs a' l' c' n') : TW w g a' l' c' n' (wx.setCell ⟨g, j, none⟩ v) := by
  refine ⟨?_, ?_, h.bel.setCell (p := ⟨g, j, none⟩) (Nat.le_refl g) v⟩
  · rw [Joins.block_setCell h.rul, he]
  · rw [Below.heap_setCell wx ⟨g, j, none⟩ v (g + 1) (by show g + 1 ≠ g; omega)]
    exact h.fld
theorem TW.size (h : TW w g a l c n wx) : g < wx.heap.size := (Array.getElem?_eq_some_iff.1 h.rul).1
end
theorem cell_setCell_far {wx : World} {g j k : Nat} {v : Value} (q : Nat) (h : q ≠ g) : (wx.setCell ⟨g, j, none⟩ v).cell? ⟨q, k, none⟩ = wx.cell? ⟨q, k, none⟩ :=
  World.cell?_of_block (w := wx) (Below.heap_setCell wx ⟨g, j, none⟩ v q h)
theorem setx2_any (g : Nat) (x : Nat) (a l c n : Int) (w : World) (hx : (x : Int) ≤ 4294967295) (hb : w.heap[g]? = some (.cells (rcs a l c n) 47 (0, 0))) :
    Calls Tryd.prog 66 #[.pointer (some ⟨g, 0, none⟩), .int .i64 x] w fun e w' => e = .returned (.tuple #[]) ∧ w.setCell ⟨g, 0, none⟩ (.int .u32 x) = w' := by
  have hcell : w.cell? ⟨g, 0, none⟩ = some (.int .u32 a) := by rw [Joins.cell_of_block hb]; rfl
  have hfz : w.frozen? ⟨g, 0, none⟩ = false := Joins.unfrozen_of_block hb 0
  clear hb
  go_enter Tryd.func66, Tryd.ntmps66
  go_wp2
  go_end0
  exact ⟨rfl, rfl⟩
theorem setx4_any (g : Nat) (x : Nat) (a l c n : Int) (w : World) (hx : (x : Int) ≤ 4294967295) (hb : w.heap[g]? = some (.cells (rcs a l c n) 47 (0, 0))) :
    Calls Tryd.prog 68 #[.pointer (some ⟨g, 0, none⟩), .int .i64 x] w fun e w' => e = .returned (.tuple #[]) ∧ w.setCell ⟨g, 1, none⟩ (.int .i64 x) = w' := by
  have hcell : w.cell? ⟨g, 1, none⟩ = some (.int .i64 l) := by rw [Joins.cell_of_block hb]; rfl
  have hfz : w.frozen? ⟨g, 1, none⟩ = false := Joins.unfrozen_of_block hb 1
  clear hb
  go_enter Tryd.func68, Tryd.ntmps68
  go_wp2
  go_end0
  exact ⟨rfl, rfl⟩
theorem setx6_any (g : Nat) (x : Nat) (a l c n : Int) (w : World) (hx : (x : Int) ≤ 4294967295) (hb : w.heap[g]? = some (.cells (rcs a l c n) 47 (0, 0))) :
    Calls Tryd.prog 70 #[.pointer (some ⟨g, 0, none⟩), .int .i64 x] w fun e w' => e = .returned (.tuple #[]) ∧ w.setCell ⟨g, 2, none⟩ (.int .i64 x) = w' := by
  have hcell : w.cell? ⟨g, 2, none⟩ = some (.int .i64 c) := by rw [Joins.cell_of_block hb]; rfl
  have hfz : w.frozen? ⟨g, 2, none⟩ = false := Joins.unfrozen_of_block hb 2
  clear hb
  go_enter Tryd.func70, Tryd.ntmps70
  go_wp2
  go_end0
  exact ⟨rfl, rfl⟩
theorem setx8_any (g : Nat) (x : Nat) (a l c n : Int) (w : World) (hx : (x : Int) ≤ 4294967295) (hb : w.heap[g]? = some (.cells (rcs a l c n) 47 (0, 0))) :
    Calls Tryd.prog 72 #[.pointer (some ⟨g, 0, none⟩), .int .i64 x] w fun e w' => e = .returned (.tuple #[]) ∧ w.setCell ⟨g, 3, none⟩ (.int .i64 x) = w' := by
  have hcell : w.cell? ⟨g, 3, none⟩ = some (.int .i64 n) := by rw [Joins.cell_of_block hb]; rfl
  have hfz : w.frozen? ⟨g, 3, none⟩ = false := Joins.unfrozen_of_block hb 3
  clear hb
  go_enter Tryd.func72, Tryd.ntmps72
  go_wp2
  go_end0
  exact ⟨rfl, rfl⟩
set_option maxHeartbeats 4000000 in
theorem rultake_ok (A : Option Addr) (n c : Nat) (l : List UInt8) (w : World) (x0 x1 x2 x3 : Nat) (hl : l.length = n) (hnc : n ≤ c) (hc : c ≤ maxLen) (hA : Has w A (vals l)) (hn : 8 ≤ (n : Int))
    (hx0 : x0 = val (l.take 4)) (hx1 : x1 = val ((l.drop 4).take 1)) (hx2 : x2 = val ((l.drop 5).take 1)) (hx3 : x3 = val ((l.drop 6).take 2)) :
    Calls Tryd.prog 88 #[.slice A n c] w fun e w' => e = .returned (.tuple #[.agg #[.int .u32 x0, .int .i64 x1, .int .i64 x2, .int .i64 x3], .int .i64 0]) ∧ Below w.heap.size w w' := by
  have b0 : (x0 : Int) ≤ 4294967295 := by have := val_take_le l 4 4294967295 rfl; omega
  have b1 : (x1 : Int) ≤ 255 := by have := val_take_le (l.drop 4) 1 255 rfl; omega
  have b2 : (x2 : Int) ≤ 255 := by have := val_take_le (l.drop 5) 1 255 rfl; omega
  have b3 : (x3 : Int) ≤ 65535 := by have := val_take_le (l.drop 6) 2 65535 rfl; omega
  have HI : Hid (∀ wx, Below w.heap.size w wx → Has wx A (vals l)) := fun wx hx => hA.bel hx
  clear hA
  have K0 : Hid (∀ wx, Below w.heap.size w wx → Calls Tryd.prog 95 #[(.slice A (n) (c)), .int .i64 4] wx fun e w' => e = .returned (.tuple #[.int .i64 x0, .int .i64 0]) ∧ wx = w') := fun wx hx => by
    have hh := HI.out wx hx
    have h := take_any (.slice A (n) (c)) l 4 wx ⟨_, _, _, rfl, by omega, by omega, by exact hl, hh⟩
    rw [takeS, if_pos ⟨by omega, by omega⟩, if_neg (by omega)] at h
    rw [hx0]
    exact h
  have K1 : Hid (∀ wx, Below w.heap.size w wx → Calls Tryd.prog 95 #[(.slice (cutA A (c) 4 1) (n - 4) (c - 4)), .int .i64 1] wx fun e w' => e = .returned (.tuple #[.int .i64 x1, .int .i64 0]) ∧ wx = w') := fun wx hx => by
    have hh := HI.out wx hx
    have hh := hh.cutA (k := 4) (cap := c) (by rw [vals_length]; omega)
    rw [← vals_drop] at hh
    have h := take_any (.slice (cutA A (c) 4 1) (n - 4) (c - 4)) (l.drop 4) 1 wx ⟨_, _, _, rfl, by omega, by omega, by rw [List.length_drop]; omega, hh⟩
    rw [takeS, if_pos ⟨by omega, by omega⟩, if_neg (by rw [List.length_drop]; omega)] at h
    rw [hx1]
    exact h
  have K2 : Hid (∀ wx, Below w.heap.size w wx → Calls Tryd.prog 95 #[(.slice (cutA (cutA A (c) 4 1) (c - 4) 1 1) (n - 4 - 1) (c - 4 - 1)), .int .i64 1] wx fun e w' => e = .returned (.tuple #[.int .i64 x2, .int .i64 0]) ∧ wx = w') := fun wx hx => by
    have hh := HI.out wx hx
    have hh := hh.cutA (k := 4) (cap := c) (by rw [vals_length]; omega)
    rw [← vals_drop] at hh
    have hh := hh.cutA (k := 1) (cap := c - 4) (by rw [vals_length, List.length_drop]; omega)
    rw [← vals_drop, List.drop_drop] at hh
    have h := take_any (.slice (cutA (cutA A (c) 4 1) (c - 4) 1 1) (n - 4 - 1) (c - 4 - 1)) (l.drop 5) 1 wx ⟨_, _, _, rfl, by omega, by omega, by rw [List.length_drop]; omega, hh⟩
    rw [takeS, if_pos ⟨by omega, by omega⟩, if_neg (by rw [List.length_drop]; omega)] at h
    rw [hx2]
    exact h
  have K3 : Hid (∀ wx, Below w.heap.size w wx → Calls Tryd.prog 95 #[(.slice (cutA (cutA (cutA A (c) 4 1) (c - 4) 1 1) (c - 4 - 1) 1 1) (n - 4 - 1 - 1) (c - 4 - 1 - 1)), .int .i64 2] wx fun e w' => e = .returned (.tuple #[.int .i64 x3, .int .i64 0]) ∧ wx = w') := fun wx hx => by
    have hh := HI.out wx hx
    have hh := hh.cutA (k := 4) (cap := c) (by rw [vals_length]; omega)
    rw [← vals_drop] at hh
    have hh := hh.cutA (k := 1) (cap := c - 4) (by rw [vals_length, List.length_drop]; omega)
    rw [← vals_drop, List.drop_drop] at hh
    have hh := hh.cutA (k := 1) (cap := c - 4 - 1) (by rw [vals_length, List.length_drop]; omega)
    rw [← vals_drop, List.drop_drop] at hh
    have h := take_any (.slice (cutA (cutA (cutA A (c) 4 1) (c - 4) 1 1) (c - 4 - 1) 1 1) (n - 4 - 1 - 1) (c - 4 - 1 - 1)) (l.drop 6) 2 wx ⟨_, _, _, rfl, by omega, by omega, by rw [List.length_drop]; omega, hh⟩
    rw [takeS, if_pos ⟨by omega, by omega⟩, if_neg (by rw [List.length_drop]; omega)] at h
    rw [hx3]
    exact h
  clear HI hl
  go_enter Tryd.func88, Tryd.ntmps88
  go_wp2_with fail
  refine (fields_any _).mono ?_
  rintro e1 w1 ⟨rfl, rfl⟩
  obtain ⟨g, hg⟩ : ∃ g, w.heap.size = g := ⟨_, rfl⟩
  have HT0 : Hid (TW w g 0 0 0 0 ((w.alloc (.cells (rcs 0 0 0 0) 47)).alloc (.cells fieldCells 73))) := by
    subst hg
    refine ⟨heap_alloc2_old w _ _, heap_alloc2_new w _ _, ((Below.refl w.heap.size w).alloc (Nat.le_refl _) _).alloc (by simp only [World.size_alloc]; omega) _⟩
  obtain ⟨w1, hw1⟩ : ∃ w1, (w.alloc (.cells #[.int .u32 0, .int .i64 0, .int .i64 0, .int .i64 0] 47)).alloc (.cells fieldCells 73) = w1 := ⟨_, rfl⟩
  rw [show rcs 0 0 0 0 = #[.int .u32 0, .int .i64 0, .int .i64 0, .int .i64 0] from rfl, hw1] at HT0
  rw [hw1]
  simp only [World.size_alloc, hg]
  rw [hg] at K0 K1 K2 K3
  have HGG := Lib.hid hg
  clear hw1 hg
  go_wp2_with fail
  refine wp_loop_rounds 5 ?_
  clear hx0 hx1 hx2 hx3
  have q0 := HT0.out.fcell 0
  have q1 := HT0.out.fcell 1
  have q2 := HT0.out.fcell 2
  simp [fieldCells] at q0 q1 q2
  rw [rounds_succ]
  go_upto_region 4 with fail
  obtain ⟨V0, hV⟩ : ∃ V, w1.alloc (.cells #[.int .i64 4, .func (.func 65) #[] #[], .func (.func 66) #[] #[]] 73) = V := ⟨_, rfl⟩
  obtain ⟨G0, hG⟩ : ∃ G, w1.heap.size = G := ⟨_, rfl⟩
  rw [hV, hG]
  have HX0 : Hid (TW w g 0 0 0 0 V0) := by subst hV; exact HT0.out.next ((Below.refl _ _).alloc (Nat.le_refl _) _)
  have hne : G0 ≠ g := by have := HT0.out.size; omega
  have hf : ∀ j, V0.cell? ⟨G0, j, none⟩ = (#[.int .i64 4, .func (.func 65) #[] #[], .func (.func 66) #[] #[]] : Array Value)[j]? := by subst hV hG; exact fun j => boxed (Below.refl _ _) j
  have hf0 := hf 0
  have hf2 := hf 2
  simp at hf0 hf2
  clear q0 q1 q2 hV hG HT0 hf
  go_wp2_with fail
  refine (K0.out _ HX0.out.bel).mono ?_
  rintro e1 wq ⟨rfl, rfl⟩
  go_wp2_with fail
  refine (setx2_any g x0 0 0 0 0 _ (by omega) HX0.out.rul).mono ?_
  rintro e1 wq ⟨rfl, rfl⟩
  have hz0 := cell_setCell_far (wx := V0) (g := g) (j := 0) (k := 0) (v := .int .u32 (x0 : Int)) G0 hne
  rw [hf0] at hz0
  have HT1 : Hid (TW w g (x0 : Int) 0 0 0 (V0.setCell ⟨g, 0, none⟩ (.int .u32 (x0 : Int)))) := HX0.out.set 0 _ rfl
  generalize V0.setCell ⟨g, 0, none⟩ (.int .u32 (x0 : Int)) = w2 at *
  clear hf0 hf2 hne HX0 K0
  go_wp2_with fail
  clear hz0
  have q0 := HT1.out.fcell 3
  have q1 := HT1.out.fcell 4
  have q2 := HT1.out.fcell 5
  simp [fieldCells] at q0 q1 q2
  rw [rounds_succ]
  go_upto_region 4 with fail
  obtain ⟨V1, hV⟩ : ∃ V, w2.alloc (.cells #[.int .i64 1, .func (.func 67) #[] #[], .func (.func 68) #[] #[]] 73) = V := ⟨_, rfl⟩
  obtain ⟨G1, hG⟩ : ∃ G, w2.heap.size = G := ⟨_, rfl⟩
  rw [hV, hG]
  have HX1 : Hid (TW w g (x0 : Int) 0 0 0 V1) := by subst hV; exact HT1.out.next ((Below.refl _ _).alloc (Nat.le_refl _) _)
  have hne : G1 ≠ g := by have := HT1.out.size; omega
  have hf : ∀ j, V1.cell? ⟨G1, j, none⟩ = (#[.int .i64 1, .func (.func 67) #[] #[], .func (.func 68) #[] #[]] : Array Value)[j]? := by subst hV hG; exact fun j => boxed (Below.refl _ _) j
  have hf0 := hf 0
  have hf2 := hf 2
  simp at hf0 hf2
  clear q0 q1 q2 hV hG HT1 hf
  go_wp2_with fail
  refine (K1.out _ HX1.out.bel).mono ?_
  rintro e1 wq ⟨rfl, rfl⟩
  go_wp2_with fail
  refine (setx4_any g x1 (x0 : Int) 0 0 0 _ (by omega) HX1.out.rul).mono ?_
  rintro e1 wq ⟨rfl, rfl⟩
  have hz0 := cell_setCell_far (wx := V1) (g := g) (j := 1) (k := 0) (v := .int .i64 (x1 : Int)) G1 hne
  rw [hf0] at hz0
  have HT2 : Hid (TW w g (x0 : Int) (x1 : Int) 0 0 (V1.setCell ⟨g, 1, none⟩ (.int .i64 (x1 : Int)))) := HX1.out.set 1 _ rfl
  generalize V1.setCell ⟨g, 1, none⟩ (.int .i64 (x1 : Int)) = w3 at *
  clear hf0 hf2 hne HX1 K1
  go_wp2_with fail
  clear hz0
  have q0 := HT2.out.fcell 6
  have q1 := HT2.out.fcell 7
  have q2 := HT2.out.fcell 8
  simp [fieldCells] at q0 q1 q2
  rw [rounds_succ]
  go_upto_region 4 with fail
  obtain ⟨V2, hV⟩ : ∃ V, w3.alloc (.cells #[.int .i64 1, .func (.func 69) #[] #[], .func (.func 70) #[] #[]] 73) = V := ⟨_, rfl⟩
  obtain ⟨G2, hG⟩ : ∃ G, w3.heap.size = G := ⟨_, rfl⟩
  rw [hV, hG]
  have HX2 : Hid (TW w g (x0 : Int) (x1 : Int) 0 0 V2) := by subst hV; exact HT2.out.next ((Below.refl _ _).alloc (Nat.le_refl _) _)
  have hne : G2 ≠ g := by have := HT2.out.size; omega
  have hf : ∀ j, V2.cell? ⟨G2, j, none⟩ = (#[.int .i64 1, .func (.func 69) #[] #[], .func (.func 70) #[] #[]] : Array Value)[j]? := by subst hV hG; exact fun j => boxed (Below.refl _ _) j
  have hf0 := hf 0
  have hf2 := hf 2
  simp at hf0 hf2
  clear q0 q1 q2 hV hG HT2 hf
  go_wp2_with fail
  refine (K2.out _ HX2.out.bel).mono ?_
  rintro e1 wq ⟨rfl, rfl⟩
  go_wp2_with fail
  refine (setx6_any g x2 (x0 : Int) (x1 : Int) 0 0 _ (by omega) HX2.out.rul).mono ?_
  rintro e1 wq ⟨rfl, rfl⟩
  have hz0 := cell_setCell_far (wx := V2) (g := g) (j := 2) (k := 0) (v := .int .i64 (x2 : Int)) G2 hne
  rw [hf0] at hz0
  have HT3 : Hid (TW w g (x0 : Int) (x1 : Int) (x2 : Int) 0 (V2.setCell ⟨g, 2, none⟩ (.int .i64 (x2 : Int)))) := HX2.out.set 2 _ rfl
  generalize V2.setCell ⟨g, 2, none⟩ (.int .i64 (x2 : Int)) = w4 at *
  clear hf0 hf2 hne HX2 K2
  go_wp2_with fail
  clear hz0
  have q0 := HT3.out.fcell 9
  have q1 := HT3.out.fcell 10
  have q2 := HT3.out.fcell 11
  simp [fieldCells] at q0 q1 q2
  rw [rounds_succ]
  go_upto_region 4 with fail
  obtain ⟨V3, hV⟩ : ∃ V, w4.alloc (.cells #[.int .i64 2, .func (.func 71) #[] #[], .func (.func 72) #[] #[]] 73) = V := ⟨_, rfl⟩
  obtain ⟨G3, hG⟩ : ∃ G, w4.heap.size = G := ⟨_, rfl⟩
  rw [hV, hG]
  have HX3 : Hid (TW w g (x0 : Int) (x1 : Int) (x2 : Int) 0 V3) := by subst hV; exact HT3.out.next ((Below.refl _ _).alloc (Nat.le_refl _) _)
  have hne : G3 ≠ g := by have := HT3.out.size; omega
  have hf : ∀ j, V3.cell? ⟨G3, j, none⟩ = (#[.int .i64 2, .func (.func 71) #[] #[], .func (.func 72) #[] #[]] : Array Value)[j]? := by subst hV hG; exact fun j => boxed (Below.refl _ _) j
  have hf0 := hf 0
  have hf2 := hf 2
  simp at hf0 hf2
  clear q0 q1 q2 hV hG HT3 hf
  go_wp2_with fail
  refine (K3.out _ HX3.out.bel).mono ?_
  rintro e1 wq ⟨rfl, rfl⟩
  go_wp2_with fail
  refine (setx8_any g x3 (x0 : Int) (x1 : Int) (x2 : Int) 0 _ (by omega) HX3.out.rul).mono ?_
  rintro e1 wq ⟨rfl, rfl⟩
  have hz0 := cell_setCell_far (wx := V3) (g := g) (j := 3) (k := 0) (v := .int .i64 (x3 : Int)) G3 hne
  rw [hf0] at hz0
  have HT4 : Hid (TW w g (x0 : Int) (x1 : Int) (x2 : Int) (x3 : Int) (V3.setCell ⟨g, 3, none⟩ (.int .i64 (x3 : Int)))) := HX3.out.set 3 _ rfl
  generalize V3.setCell ⟨g, 3, none⟩ (.int .i64 (x3 : Int)) = w5 at *
  clear hf0 hf2 hne HX3 K3
  go_wp2_with fail
  clear hz0
  rw [rounds_succ]
  have HR := HT4.out.rul
  go_wp2_with (first | (refine wpList_load_row rfl 47 (.tmp 2) rfl g rfl 47 (rcs (x0 : Int) (x1 : Int) (x2 : Int) (x3 : Int)) (0, 0) _ HR Tryd.underlying47 rfl rfl ?_) | (refine wpList_store_row rfl 47 (.tmp 2) (.tmp 34) rfl g (rcs (x0 : Int) (x1 : Int) (x2 : Int) (x3 : Int)) rfl rfl 47 (rcs (x0 : Int) (x1 : Int) (x2 : Int) (x3 : Int)) HR rfl rfl (by simp [rcs, Value.oneCell']) ?_))
  (try simp only [Exit.inBlock, Exit.then])
  exact bodyPost_ret (results_rule rfl _ _ g (x0 : Int) (x1 : Int) (x2 : Int) (x3 : Int) rfl (setRow_heap _ _ _ _ _ _ HR)) rfl ⟨rfl, below_setRow (by have h := HT4.out.bel; rw [HGG.out]; exact h) (by rw [HGG.out]; exact Nat.le_refl _) _⟩
set_option maxHeartbeats 4000000 in
theorem rultake_no0 (A : Option Addr) (n c : Nat) (l : List UInt8) (w : World)  (hl : l.length = n) (hnc : n ≤ c) (hc : c ≤ maxLen) (hA : Has w A (vals l)) (hn : (n : Int) < 4)
     :
    Calls Tryd.prog 88 #[.slice A n c] w fun e w' => e = .returned (.tuple #[.agg #[.int .u32 0, .int .i64 0, .int .i64 0, .int .i64 0], .int .i64 2]) ∧ Below w.heap.size w w' := by
  have HI : Hid (∀ wx, Below w.heap.size w wx → Has wx A (vals l)) := fun wx hx => hA.bel hx
  clear hA
  have K0 : Hid (∀ wx, Below w.heap.size w wx → Calls Tryd.prog 95 #[(.slice A (n) (c)), .int .i64 4] wx fun e w' => e = .returned (.tuple #[.int .i64 0, .int .i64 2]) ∧ wx = w') := fun wx hx => by
    have hh := HI.out wx hx
    have h := take_any (.slice A (n) (c)) l 4 wx ⟨_, _, _, rfl, by omega, by omega, by exact hl, hh⟩
    rw [takeS, if_pos ⟨by omega, by omega⟩, if_pos (by omega)] at h
    exact h
  clear HI hl
  go_enter Tryd.func88, Tryd.ntmps88
  go_wp2_with fail
  refine (fields_any _).mono ?_
  rintro e1 w1 ⟨rfl, rfl⟩
  obtain ⟨g, hg⟩ : ∃ g, w.heap.size = g := ⟨_, rfl⟩
  have HT0 : Hid (TW w g 0 0 0 0 ((w.alloc (.cells (rcs 0 0 0 0) 47)).alloc (.cells fieldCells 73))) := by
    subst hg
    refine ⟨heap_alloc2_old w _ _, heap_alloc2_new w _ _, ((Below.refl w.heap.size w).alloc (Nat.le_refl _) _).alloc (by simp only [World.size_alloc]; omega) _⟩
  obtain ⟨w1, hw1⟩ : ∃ w1, (w.alloc (.cells #[.int .u32 0, .int .i64 0, .int .i64 0, .int .i64 0] 47)).alloc (.cells fieldCells 73) = w1 := ⟨_, rfl⟩
  rw [show rcs 0 0 0 0 = #[.int .u32 0, .int .i64 0, .int .i64 0, .int .i64 0] from rfl, hw1] at HT0
  rw [hw1]
  simp only [World.size_alloc, hg]
  rw [hg] at K0
  have HGG := Lib.hid hg
  clear hw1 hg
  go_wp2_with fail
  refine wp_loop_rounds 5 ?_
  have q0 := HT0.out.fcell 0
  have q1 := HT0.out.fcell 1
  have q2 := HT0.out.fcell 2
  simp [fieldCells] at q0 q1 q2
  rw [rounds_succ]
  go_upto_region 4 with fail
  obtain ⟨V0, hV⟩ : ∃ V, w1.alloc (.cells #[.int .i64 4, .func (.func 65) #[] #[], .func (.func 66) #[] #[]] 73) = V := ⟨_, rfl⟩
  obtain ⟨G0, hG⟩ : ∃ G, w1.heap.size = G := ⟨_, rfl⟩
  rw [hV, hG]
  have HX0 : Hid (TW w g 0 0 0 0 V0) := by subst hV; exact HT0.out.next ((Below.refl _ _).alloc (Nat.le_refl _) _)
  have hne : G0 ≠ g := by have := HT0.out.size; omega
  have hf : ∀ j, V0.cell? ⟨G0, j, none⟩ = (#[.int .i64 4, .func (.func 65) #[] #[], .func (.func 66) #[] #[]] : Array Value)[j]? := by subst hV hG; exact fun j => boxed (Below.refl _ _) j
  have hf0 := hf 0
  have hf2 := hf 2
  simp at hf0 hf2
  clear q0 q1 q2 hV hG HT0 hf
  go_wp2_with fail
  refine (K0.out _ HX0.out.bel).mono ?_
  rintro e1 wq ⟨rfl, rfl⟩
  have HR := HX0.out.rul
  go_wp2_with (first | (refine wpList_store_row rfl 47 (.tmp 2) (.tmp 23) rfl g (rcs 0 0 0 0) rfl rfl 47 (rcs 0 0 0 0) HR rfl rfl (by simp [rcs, Value.oneCell']) ?_))
  (try simp only [Exit.inBlock, Exit.then])
  exact bodyPost_ret (results_rule rfl _ _ g 0 0 0 0 rfl (setRow_heap _ _ _ _ _ _ HR)) rfl ⟨rfl, below_setRow (by have h := HX0.out.bel; rw [HGG.out]; exact h) (by rw [HGG.out]; exact Nat.le_refl _) _⟩
set_option maxHeartbeats 4000000 in
theorem rultake_no1 (A : Option Addr) (n c : Nat) (l : List UInt8) (w : World) (x0 : Nat) (hl : l.length = n) (hnc : n ≤ c) (hc : c ≤ maxLen) (hA : Has w A (vals l)) (hn : (n : Int) = 4)
    (hx0 : x0 = val (l.take 4)) :
    Calls Tryd.prog 88 #[.slice A n c] w fun e w' => e = .returned (.tuple #[.agg #[.int .u32 0, .int .i64 0, .int .i64 0, .int .i64 0], .int .i64 2]) ∧ Below w.heap.size w w' := by
  have b0 : (x0 : Int) ≤ 4294967295 := by have := val_take_le l 4 4294967295 rfl; omega
  have HI : Hid (∀ wx, Below w.heap.size w wx → Has wx A (vals l)) := fun wx hx => hA.bel hx
  clear hA
  have K0 : Hid (∀ wx, Below w.heap.size w wx → Calls Tryd.prog 95 #[(.slice A (n) (c)), .int .i64 4] wx fun e w' => e = .returned (.tuple #[.int .i64 x0, .int .i64 0]) ∧ wx = w') := fun wx hx => by
    have hh := HI.out wx hx
    have h := take_any (.slice A (n) (c)) l 4 wx ⟨_, _, _, rfl, by omega, by omega, by exact hl, hh⟩
    rw [takeS, if_pos ⟨by omega, by omega⟩, if_neg (by omega)] at h
    rw [hx0]
    exact h
  have K1 : Hid (∀ wx, Below w.heap.size w wx → Calls Tryd.prog 95 #[(.slice (cutA A (c) 4 1) (n - 4) (c - 4)), .int .i64 1] wx fun e w' => e = .returned (.tuple #[.int .i64 0, .int .i64 2]) ∧ wx = w') := fun wx hx => by
    have hh := HI.out wx hx
    have hh := hh.cutA (k := 4) (cap := c) (by rw [vals_length]; omega)
    rw [← vals_drop] at hh
    have h := take_any (.slice (cutA A (c) 4 1) (n - 4) (c - 4)) (l.drop 4) 1 wx ⟨_, _, _, rfl, by omega, by omega, by rw [List.length_drop]; omega, hh⟩
    rw [takeS, if_pos ⟨by omega, by omega⟩, if_pos (by rw [List.length_drop]; omega)] at h
    exact h
  clear HI hl
  go_enter Tryd.func88, Tryd.ntmps88
  go_wp2_with fail
  refine (fields_any _).mono ?_
  rintro e1 w1 ⟨rfl, rfl⟩
  obtain ⟨g, hg⟩ : ∃ g, w.heap.size = g := ⟨_, rfl⟩
  have HT0 : Hid (TW w g 0 0 0 0 ((w.alloc (.cells (rcs 0 0 0 0) 47)).alloc (.cells fieldCells 73))) := by
    subst hg
    refine ⟨heap_alloc2_old w _ _, heap_alloc2_new w _ _, ((Below.refl w.heap.size w).alloc (Nat.le_refl _) _).alloc (by simp only [World.size_alloc]; omega) _⟩
  obtain ⟨w1, hw1⟩ : ∃ w1, (w.alloc (.cells #[.int .u32 0, .int .i64 0, .int .i64 0, .int .i64 0] 47)).alloc (.cells fieldCells 73) = w1 := ⟨_, rfl⟩
  rw [show rcs 0 0 0 0 = #[.int .u32 0, .int .i64 0, .int .i64 0, .int .i64 0] from rfl, hw1] at HT0
  rw [hw1]
  simp only [World.size_alloc, hg]
  rw [hg] at K0 K1
  have HGG := Lib.hid hg
  clear hw1 hg
  go_wp2_with fail
  refine wp_loop_rounds 5 ?_
  clear hx0
  have q0 := HT0.out.fcell 0
  have q1 := HT0.out.fcell 1
  have q2 := HT0.out.fcell 2
  simp [fieldCells] at q0 q1 q2
  rw [rounds_succ]
  go_upto_region 4 with fail
  obtain ⟨V0, hV⟩ : ∃ V, w1.alloc (.cells #[.int .i64 4, .func (.func 65) #[] #[], .func (.func 66) #[] #[]] 73) = V := ⟨_, rfl⟩
  obtain ⟨G0, hG⟩ : ∃ G, w1.heap.size = G := ⟨_, rfl⟩
  rw [hV, hG]
  have HX0 : Hid (TW w g 0 0 0 0 V0) := by subst hV; exact HT0.out.next ((Below.refl _ _).alloc (Nat.le_refl _) _)
  have hne : G0 ≠ g := by have := HT0.out.size; omega
  have hf : ∀ j, V0.cell? ⟨G0, j, none⟩ = (#[.int .i64 4, .func (.func 65) #[] #[], .func (.func 66) #[] #[]] : Array Value)[j]? := by subst hV hG; exact fun j => boxed (Below.refl _ _) j
  have hf0 := hf 0
  have hf2 := hf 2
  simp at hf0 hf2
  clear q0 q1 q2 hV hG HT0 hf
  go_wp2_with fail
  refine (K0.out _ HX0.out.bel).mono ?_
  rintro e1 wq ⟨rfl, rfl⟩
  go_wp2_with fail
  refine (setx2_any g x0 0 0 0 0 _ (by omega) HX0.out.rul).mono ?_
  rintro e1 wq ⟨rfl, rfl⟩
  have hz0 := cell_setCell_far (wx := V0) (g := g) (j := 0) (k := 0) (v := .int .u32 (x0 : Int)) G0 hne
  rw [hf0] at hz0
  have HT1 : Hid (TW w g (x0 : Int) 0 0 0 (V0.setCell ⟨g, 0, none⟩ (.int .u32 (x0 : Int)))) := HX0.out.set 0 _ rfl
  generalize V0.setCell ⟨g, 0, none⟩ (.int .u32 (x0 : Int)) = w2 at *
  clear hf0 hf2 hne HX0 K0
  go_wp2_with fail
  clear hz0
  have q0 := HT1.out.fcell 3
  have q1 := HT1.out.fcell 4
  have q2 := HT1.out.fcell 5
  simp [fieldCells] at q0 q1 q2
  rw [rounds_succ]
  go_upto_region 4 with fail
  obtain ⟨V1, hV⟩ : ∃ V, w2.alloc (.cells #[.int .i64 1, .func (.func 67) #[] #[], .func (.func 68) #[] #[]] 73) = V := ⟨_, rfl⟩
  obtain ⟨G1, hG⟩ : ∃ G, w2.heap.size = G := ⟨_, rfl⟩
  rw [hV, hG]
  have HX1 : Hid (TW w g (x0 : Int) 0 0 0 V1) := by subst hV; exact HT1.out.next ((Below.refl _ _).alloc (Nat.le_refl _) _)
  have hne : G1 ≠ g := by have := HT1.out.size; omega
  have hf : ∀ j, V1.cell? ⟨G1, j, none⟩ = (#[.int .i64 1, .func (.func 67) #[] #[], .func (.func 68) #[] #[]] : Array Value)[j]? := by subst hV hG; exact fun j => boxed (Below.refl _ _) j
  have hf0 := hf 0
  have hf2 := hf 2
  simp at hf0 hf2
  clear q0 q1 q2 hV hG HT1 hf
  go_wp2_with fail
  refine (K1.out _ HX1.out.bel).mono ?_
  rintro e1 wq ⟨rfl, rfl⟩
  have HR := HX1.out.rul
  go_wp2_with (first | (refine wpList_store_row rfl 47 (.tmp 2) (.tmp 23) rfl g (rcs 0 0 0 0) rfl rfl 47 (rcs (x0 : Int) 0 0 0) HR rfl rfl (by simp [rcs, Value.oneCell']) ?_))
  (try simp only [Exit.inBlock, Exit.then])
  exact bodyPost_ret (results_rule rfl _ _ g 0 0 0 0 rfl (setRow_heap _ _ _ _ _ _ HR)) rfl ⟨rfl, below_setRow (by have h := HX1.out.bel; rw [HGG.out]; exact h) (by rw [HGG.out]; exact Nat.le_refl _) _⟩
set_option maxHeartbeats 4000000 in
theorem rultake_no2 (A : Option Addr) (n c : Nat) (l : List UInt8) (w : World) (x0 x1 : Nat) (hl : l.length = n) (hnc : n ≤ c) (hc : c ≤ maxLen) (hA : Has w A (vals l)) (hn : (n : Int) = 5)
    (hx0 : x0 = val (l.take 4)) (hx1 : x1 = val ((l.drop 4).take 1)) :
    Calls Tryd.prog 88 #[.slice A n c] w fun e w' => e = .returned (.tuple #[.agg #[.int .u32 0, .int .i64 0, .int .i64 0, .int .i64 0], .int .i64 2]) ∧ Below w.heap.size w w' := by
  have b0 : (x0 : Int) ≤ 4294967295 := by have := val_take_le l 4 4294967295 rfl; omega
  have b1 : (x1 : Int) ≤ 255 := by have := val_take_le (l.drop 4) 1 255 rfl; omega
  have HI : Hid (∀ wx, Below w.heap.size w wx → Has wx A (vals l)) := fun wx hx => hA.bel hx
  clear hA
  have K0 : Hid (∀ wx, Below w.heap.size w wx → Calls Tryd.prog 95 #[(.slice A (n) (c)), .int .i64 4] wx fun e w' => e = .returned (.tuple #[.int .i64 x0, .int .i64 0]) ∧ wx = w') := fun wx hx => by
    have hh := HI.out wx hx
    have h := take_any (.slice A (n) (c)) l 4 wx ⟨_, _, _, rfl, by omega, by omega, by exact hl, hh⟩
    rw [takeS, if_pos ⟨by omega, by omega⟩, if_neg (by omega)] at h
    rw [hx0]
    exact h
  have K1 : Hid (∀ wx, Below w.heap.size w wx → Calls Tryd.prog 95 #[(.slice (cutA A (c) 4 1) (n - 4) (c - 4)), .int .i64 1] wx fun e w' => e = .returned (.tuple #[.int .i64 x1, .int .i64 0]) ∧ wx = w') := fun wx hx => by
    have hh := HI.out wx hx
    have hh := hh.cutA (k := 4) (cap := c) (by rw [vals_length]; omega)
    rw [← vals_drop] at hh
    have h := take_any (.slice (cutA A (c) 4 1) (n - 4) (c - 4)) (l.drop 4) 1 wx ⟨_, _, _, rfl, by omega, by omega, by rw [List.length_drop]; omega, hh⟩
    rw [takeS, if_pos ⟨by omega, by omega⟩, if_neg (by rw [List.length_drop]; omega)] at h
    rw [hx1]
    exact h
  have K2 : Hid (∀ wx, Below w.heap.size w wx → Calls Tryd.prog 95 #[(.slice (cutA (cutA A (c) 4 1) (c - 4) 1 1) (n - 4 - 1) (c - 4 - 1)), .int .i64 1] wx fun e w' => e = .returned (.tuple #[.int .i64 0, .int .i64 2]) ∧ wx = w') := fun wx hx => by
    have hh := HI.out wx hx
    have hh := hh.cutA (k := 4) (cap := c) (by rw [vals_length]; omega)
    rw [← vals_drop] at hh
    have hh := hh.cutA (k := 1) (cap := c - 4) (by rw [vals_length, List.length_drop]; omega)
    rw [← vals_drop, List.drop_drop] at hh
    have h := take_any (.slice (cutA (cutA A (c) 4 1) (c - 4) 1 1) (n - 4 - 1) (c - 4 - 1)) (l.drop 5) 1 wx ⟨_, _, _, rfl, by omega, by omega, by rw [List.length_drop]; omega, hh⟩
    rw [takeS, if_pos ⟨by omega, by omega⟩, if_pos (by rw [List.length_drop]; omega)] at h
    exact h
  clear HI hl
  go_enter Tryd.func88, Tryd.ntmps88
  go_wp2_with fail
  refine (fields_any _).mono ?_
  rintro e1 w1 ⟨rfl, rfl⟩
  obtain ⟨g, hg⟩ : ∃ g, w.heap.size = g := ⟨_, rfl⟩
  have HT0 : Hid (TW w g 0 0 0 0 ((w.alloc (.cells (rcs 0 0 0 0) 47)).alloc (.cells fieldCells 73))) := by
    subst hg
    refine ⟨heap_alloc2_old w _ _, heap_alloc2_new w _ _, ((Below.refl w.heap.size w).alloc (Nat.le_refl _) _).alloc (by simp only [World.size_alloc]; omega) _⟩
  obtain ⟨w1, hw1⟩ : ∃ w1, (w.alloc (.cells #[.int .u32 0, .int .i64 0, .int .i64 0, .int .i64 0] 47)).alloc (.cells fieldCells 73) = w1 := ⟨_, rfl⟩
  rw [show rcs 0 0 0 0 = #[.int .u32 0, .int .i64 0, .int .i64 0, .int .i64 0] from rfl, hw1] at HT0
  rw [hw1]
  simp only [World.size_alloc, hg]
  rw [hg] at K0 K1 K2
  have HGG := Lib.hid hg
  clear hw1 hg
  go_wp2_with fail
  refine wp_loop_rounds 5 ?_
  clear hx0 hx1
  have q0 := HT0.out.fcell 0
  have q1 := HT0.out.fcell 1
  have q2 := HT0.out.fcell 2
  simp [fieldCells] at q0 q1 q2
  rw [rounds_succ]
  go_upto_region 4 with fail
  obtain ⟨V0, hV⟩ : ∃ V, w1.alloc (.cells #[.int .i64 4, .func (.func 65) #[] #[], .func (.func 66) #[] #[]] 73) = V := ⟨_, rfl⟩
  obtain ⟨G0, hG⟩ : ∃ G, w1.heap.size = G := ⟨_, rfl⟩
  rw [hV, hG]
  have HX0 : Hid (TW w g 0 0 0 0 V0) := by subst hV; exact HT0.out.next ((Below.refl _ _).alloc (Nat.le_refl _) _)
  have hne : G0 ≠ g := by have := HT0.out.size; omega
  have hf : ∀ j, V0.cell? ⟨G0, j, none⟩ = (#[.int .i64 4, .func (.func 65) #[] #[], .func (.func 66) #[] #[]] : Array Value)[j]? := by subst hV hG; exact fun j => boxed (Below.refl _ _) j
  have hf0 := hf 0
  have hf2 := hf 2
  simp at hf0 hf2
  clear q0 q1 q2 hV hG HT0 hf
  go_wp2_with fail
  refine (K0.out _ HX0.out.bel).mono ?_
  rintro e1 wq ⟨rfl, rfl⟩
  go_wp2_with fail
  refine (setx2_any g x0 0 0 0 0 _ (by omega) HX0.out.rul).mono ?_
  rintro e1 wq ⟨rfl, rfl⟩
  have hz0 := cell_setCell_far (wx := V0) (g := g) (j := 0) (k := 0) (v := .int .u32 (x0 : Int)) G0 hne
  rw [hf0] at hz0
  have HT1 : Hid (TW w g (x0 : Int) 0 0 0 (V0.setCell ⟨g, 0, none⟩ (.int .u32 (x0 : Int)))) := HX0.out.set 0 _ rfl
  generalize V0.setCell ⟨g, 0, none⟩ (.int .u32 (x0 : Int)) = w2 at *
  clear hf0 hf2 hne HX0 K0
  go_wp2_with fail
  clear hz0
  have q0 := HT1.out.fcell 3
  have q1 := HT1.out.fcell 4
  have q2 := HT1.out.fcell 5
  simp [fieldCells] at q0 q1 q2
  rw [rounds_succ]
  go_upto_region 4 with fail
  obtain ⟨V1, hV⟩ : ∃ V, w2.alloc (.cells #[.int .i64 1, .func (.func 67) #[] #[], .func (.func 68) #[] #[]] 73) = V := ⟨_, rfl⟩
  obtain ⟨G1, hG⟩ : ∃ G, w2.heap.size = G := ⟨_, rfl⟩
  rw [hV, hG]
  have HX1 : Hid (TW w g (x0 : Int) 0 0 0 V1) := by subst hV; exact HT1.out.next ((Below.refl _ _).alloc (Nat.le_refl _) _)
  have hne : G1 ≠ g := by have := HT1.out.size; omega
  have hf : ∀ j, V1.cell? ⟨G1, j, none⟩ = (#[.int .i64 1, .func (.func 67) #[] #[], .func (.func 68) #[] #[]] : Array Value)[j]? := by subst hV hG; exact fun j => boxed (Below.refl _ _) j
  have hf0 := hf 0
  have hf2 := hf 2
  simp at hf0 hf2
  clear q0 q1 q2 hV hG HT1 hf
  go_wp2_with fail
  refine (K1.out _ HX1.out.bel).mono ?_
  rintro e1 wq ⟨rfl, rfl⟩
  go_wp2_with fail
  refine (setx4_any g x1 (x0 : Int) 0 0 0 _ (by omega) HX1.out.rul).mono ?_
  rintro e1 wq ⟨rfl, rfl⟩
  have hz0 := cell_setCell_far (wx := V1) (g := g) (j := 1) (k := 0) (v := .int .i64 (x1 : Int)) G1 hne
  rw [hf0] at hz0
  have HT2 : Hid (TW w g (x0 : Int) (x1 : Int) 0 0 (V1.setCell ⟨g, 1, none⟩ (.int .i64 (x1 : Int)))) := HX1.out.set 1 _ rfl
  generalize V1.setCell ⟨g, 1, none⟩ (.int .i64 (x1 : Int)) = w3 at *
  clear hf0 hf2 hne HX1 K1
  go_wp2_with fail
  clear hz0
  have q0 := HT2.out.fcell 6
  have q1 := HT2.out.fcell 7
  have q2 := HT2.out.fcell 8
  simp [fieldCells] at q0 q1 q2
  rw [rounds_succ]
  go_upto_region 4 with fail
  obtain ⟨V2, hV⟩ : ∃ V, w3.alloc (.cells #[.int .i64 1, .func (.func 69) #[] #[], .func (.func 70) #[] #[]] 73) = V := ⟨_, rfl⟩
  obtain ⟨G2, hG⟩ : ∃ G, w3.heap.size = G := ⟨_, rfl⟩
  rw [hV, hG]
  have HX2 : Hid (TW w g (x0 : Int) (x1 : Int) 0 0 V2) := by subst hV; exact HT2.out.next ((Below.refl _ _).alloc (Nat.le_refl _) _)
  have hne : G2 ≠ g := by have := HT2.out.size; omega
  have hf : ∀ j, V2.cell? ⟨G2, j, none⟩ = (#[.int .i64 1, .func (.func 69) #[] #[], .func (.func 70) #[] #[]] : Array Value)[j]? := by subst hV hG; exact fun j => boxed (Below.refl _ _) j
  have hf0 := hf 0
  have hf2 := hf 2
  simp at hf0 hf2
  clear q0 q1 q2 hV hG HT2 hf
  go_wp2_with fail
  refine (K2.out _ HX2.out.bel).mono ?_
  rintro e1 wq ⟨rfl, rfl⟩
  have HR := HX2.out.rul
  go_wp2_with (first | (refine wpList_store_row rfl 47 (.tmp 2) (.tmp 23) rfl g (rcs 0 0 0 0) rfl rfl 47 (rcs (x0 : Int) (x1 : Int) 0 0) HR rfl rfl (by simp [rcs, Value.oneCell']) ?_))
  (try simp only [Exit.inBlock, Exit.then])
  exact bodyPost_ret (results_rule rfl _ _ g 0 0 0 0 rfl (setRow_heap _ _ _ _ _ _ HR)) rfl ⟨rfl, below_setRow (by have h := HX2.out.bel; rw [HGG.out]; exact h) (by rw [HGG.out]; exact Nat.le_refl _) _⟩
set_option maxHeartbeats 4000000 in
theorem rultake_no3 (A : Option Addr) (n c : Nat) (l : List UInt8) (w : World) (x0 x1 x2 : Nat) (hl : l.length = n) (hnc : n ≤ c) (hc : c ≤ maxLen) (hA : Has w A (vals l)) (h6 : 6 ≤ (n : Int)) (h7 : (n : Int) < 8)
    (hx0 : x0 = val (l.take 4)) (hx1 : x1 = val ((l.drop 4).take 1)) (hx2 : x2 = val ((l.drop 5).take 1)) :
    Calls Tryd.prog 88 #[.slice A n c] w fun e w' => e = .returned (.tuple #[.agg #[.int .u32 0, .int .i64 0, .int .i64 0, .int .i64 0], .int .i64 2]) ∧ Below w.heap.size w w' := by
  have b0 : (x0 : Int) ≤ 4294967295 := by have := val_take_le l 4 4294967295 rfl; omega
  have b1 : (x1 : Int) ≤ 255 := by have := val_take_le (l.drop 4) 1 255 rfl; omega
  have b2 : (x2 : Int) ≤ 255 := by have := val_take_le (l.drop 5) 1 255 rfl; omega
  have HI : Hid (∀ wx, Below w.heap.size w wx → Has wx A (vals l)) := fun wx hx => hA.bel hx
  clear hA
  have K0 : Hid (∀ wx, Below w.heap.size w wx → Calls Tryd.prog 95 #[(.slice A (n) (c)), .int .i64 4] wx fun e w' => e = .returned (.tuple #[.int .i64 x0, .int .i64 0]) ∧ wx = w') := fun wx hx => by
    have hh := HI.out wx hx
    have h := take_any (.slice A (n) (c)) l 4 wx ⟨_, _, _, rfl, by omega, by omega, by exact hl, hh⟩
    rw [takeS, if_pos ⟨by omega, by omega⟩, if_neg (by omega)] at h
    rw [hx0]
    exact h
  have K1 : Hid (∀ wx, Below w.heap.size w wx → Calls Tryd.prog 95 #[(.slice (cutA A (c) 4 1) (n - 4) (c - 4)), .int .i64 1] wx fun e w' => e = .returned (.tuple #[.int .i64 x1, .int .i64 0]) ∧ wx = w') := fun wx hx => by
    have hh := HI.out wx hx
    have hh := hh.cutA (k := 4) (cap := c) (by rw [vals_length]; omega)
    rw [← vals_drop] at hh
    have h := take_any (.slice (cutA A (c) 4 1) (n - 4) (c - 4)) (l.drop 4) 1 wx ⟨_, _, _, rfl, by omega, by omega, by rw [List.length_drop]; omega, hh⟩
    rw [takeS, if_pos ⟨by omega, by omega⟩, if_neg (by rw [List.length_drop]; omega)] at h
    rw [hx1]
    exact h
  have K2 : Hid (∀ wx, Below w.heap.size w wx → Calls Tryd.prog 95 #[(.slice (cutA (cutA A (c) 4 1) (c - 4) 1 1) (n - 4 - 1) (c - 4 - 1)), .int .i64 1] wx fun e w' => e = .returned (.tuple #[.int .i64 x2, .int .i64 0]) ∧ wx = w') := fun wx hx => by
    have hh := HI.out wx hx
    have hh := hh.cutA (k := 4) (cap := c) (by rw [vals_length]; omega)
    rw [← vals_drop] at hh
    have hh := hh.cutA (k := 1) (cap := c - 4) (by rw [vals_length, List.length_drop]; omega)
    rw [← vals_drop, List.drop_drop] at hh
    have h := take_any (.slice (cutA (cutA A (c) 4 1) (c - 4) 1 1) (n - 4 - 1) (c - 4 - 1)) (l.drop 5) 1 wx ⟨_, _, _, rfl, by omega, by omega, by rw [List.length_drop]; omega, hh⟩
    rw [takeS, if_pos ⟨by omega, by omega⟩, if_neg (by rw [List.length_drop]; omega)] at h
    rw [hx2]
    exact h
  have K3 : Hid (∀ wx, Below w.heap.size w wx → Calls Tryd.prog 95 #[(.slice (cutA (cutA (cutA A (c) 4 1) (c - 4) 1 1) (c - 4 - 1) 1 1) (n - 4 - 1 - 1) (c - 4 - 1 - 1)), .int .i64 2] wx fun e w' => e = .returned (.tuple #[.int .i64 0, .int .i64 2]) ∧ wx = w') := fun wx hx => by
    have hh := HI.out wx hx
    have hh := hh.cutA (k := 4) (cap := c) (by rw [vals_length]; omega)
    rw [← vals_drop] at hh
    have hh := hh.cutA (k := 1) (cap := c - 4) (by rw [vals_length, List.length_drop]; omega)
    rw [← vals_drop, List.drop_drop] at hh
    have hh := hh.cutA (k := 1) (cap := c - 4 - 1) (by rw [vals_length, List.length_drop]; omega)
    rw [← vals_drop, List.drop_drop] at hh
    have h := take_any (.slice (cutA (cutA (cutA A (c) 4 1) (c - 4) 1 1) (c - 4 - 1) 1 1) (n - 4 - 1 - 1) (c - 4 - 1 - 1)) (l.drop 6) 2 wx ⟨_, _, _, rfl, by omega, by omega, by rw [List.length_drop]; omega, hh⟩
    rw [takeS, if_pos ⟨by omega, by omega⟩, if_pos (by rw [List.length_drop]; omega)] at h
    exact h
  clear HI hl
  go_enter Tryd.func88, Tryd.ntmps88
  go_wp2_with fail
  refine (fields_any _).mono ?_
  rintro e1 w1 ⟨rfl, rfl⟩
  obtain ⟨g, hg⟩ : ∃ g, w.heap.size = g := ⟨_, rfl⟩
  have HT0 : Hid (TW w g 0 0 0 0 ((w.alloc (.cells (rcs 0 0 0 0) 47)).alloc (.cells fieldCells 73))) := by
    subst hg
    refine ⟨heap_alloc2_old w _ _, heap_alloc2_new w _ _, ((Below.refl w.heap.size w).alloc (Nat.le_refl _) _).alloc (by simp only [World.size_alloc]; omega) _⟩
  obtain ⟨w1, hw1⟩ : ∃ w1, (w.alloc (.cells #[.int .u32 0, .int .i64 0, .int .i64 0, .int .i64 0] 47)).alloc (.cells fieldCells 73) = w1 := ⟨_, rfl⟩
  rw [show rcs 0 0 0 0 = #[.int .u32 0, .int .i64 0, .int .i64 0, .int .i64 0] from rfl, hw1] at HT0
  rw [hw1]
  simp only [World.size_alloc, hg]
  rw [hg] at K0 K1 K2 K3
  have HGG := Lib.hid hg
  clear hw1 hg
  go_wp2_with fail
  refine wp_loop_rounds 5 ?_
  clear hx0 hx1 hx2
  have q0 := HT0.out.fcell 0
  have q1 := HT0.out.fcell 1
  have q2 := HT0.out.fcell 2
  simp [fieldCells] at q0 q1 q2
  rw [rounds_succ]
  go_upto_region 4 with fail
  obtain ⟨V0, hV⟩ : ∃ V, w1.alloc (.cells #[.int .i64 4, .func (.func 65) #[] #[], .func (.func 66) #[] #[]] 73) = V := ⟨_, rfl⟩
  obtain ⟨G0, hG⟩ : ∃ G, w1.heap.size = G := ⟨_, rfl⟩
  rw [hV, hG]
  have HX0 : Hid (TW w g 0 0 0 0 V0) := by subst hV; exact HT0.out.next ((Below.refl _ _).alloc (Nat.le_refl _) _)
  have hne : G0 ≠ g := by have := HT0.out.size; omega
  have hf : ∀ j, V0.cell? ⟨G0, j, none⟩ = (#[.int .i64 4, .func (.func 65) #[] #[], .func (.func 66) #[] #[]] : Array Value)[j]? := by subst hV hG; exact fun j => boxed (Below.refl _ _) j
  have hf0 := hf 0
  have hf2 := hf 2
  simp at hf0 hf2
  clear q0 q1 q2 hV hG HT0 hf
  go_wp2_with fail
  refine (K0.out _ HX0.out.bel).mono ?_
  rintro e1 wq ⟨rfl, rfl⟩
  go_wp2_with fail
  refine (setx2_any g x0 0 0 0 0 _ (by omega) HX0.out.rul).mono ?_
  rintro e1 wq ⟨rfl, rfl⟩
  have hz0 := cell_setCell_far (wx := V0) (g := g) (j := 0) (k := 0) (v := .int .u32 (x0 : Int)) G0 hne
  rw [hf0] at hz0
  have HT1 : Hid (TW w g (x0 : Int) 0 0 0 (V0.setCell ⟨g, 0, none⟩ (.int .u32 (x0 : Int)))) := HX0.out.set 0 _ rfl
  generalize V0.setCell ⟨g, 0, none⟩ (.int .u32 (x0 : Int)) = w2 at *
  clear hf0 hf2 hne HX0 K0
  go_wp2_with fail
  clear hz0
  have q0 := HT1.out.fcell 3
  have q1 := HT1.out.fcell 4
  have q2 := HT1.out.fcell 5
  simp [fieldCells] at q0 q1 q2
  rw [rounds_succ]
  go_upto_region 4 with fail
  obtain ⟨V1, hV⟩ : ∃ V, w2.alloc (.cells #[.int .i64 1, .func (.func 67) #[] #[], .func (.func 68) #[] #[]] 73) = V := ⟨_, rfl⟩
  obtain ⟨G1, hG⟩ : ∃ G, w2.heap.size = G := ⟨_, rfl⟩
  rw [hV, hG]
  have HX1 : Hid (TW w g (x0 : Int) 0 0 0 V1) := by subst hV; exact HT1.out.next ((Below.refl _ _).alloc (Nat.le_refl _) _)
  have hne : G1 ≠ g := by have := HT1.out.size; omega
  have hf : ∀ j, V1.cell? ⟨G1, j, none⟩ = (#[.int .i64 1, .func (.func 67) #[] #[], .func (.func 68) #[] #[]] : Array Value)[j]? := by subst hV hG; exact fun j => boxed (Below.refl _ _) j
  have hf0 := hf 0
  have hf2 := hf 2
  simp at hf0 hf2
  clear q0 q1 q2 hV hG HT1 hf
  go_wp2_with fail
  refine (K1.out _ HX1.out.bel).mono ?_
  rintro e1 wq ⟨rfl, rfl⟩
  go_wp2_with fail
  refine (setx4_any g x1 (x0 : Int) 0 0 0 _ (by omega) HX1.out.rul).mono ?_
  rintro e1 wq ⟨rfl, rfl⟩
  have hz0 := cell_setCell_far (wx := V1) (g := g) (j := 1) (k := 0) (v := .int .i64 (x1 : Int)) G1 hne
  rw [hf0] at hz0
  have HT2 : Hid (TW w g (x0 : Int) (x1 : Int) 0 0 (V1.setCell ⟨g, 1, none⟩ (.int .i64 (x1 : Int)))) := HX1.out.set 1 _ rfl
  generalize V1.setCell ⟨g, 1, none⟩ (.int .i64 (x1 : Int)) = w3 at *
  clear hf0 hf2 hne HX1 K1
  go_wp2_with fail
  clear hz0
  have q0 := HT2.out.fcell 6
  have q1 := HT2.out.fcell 7
  have q2 := HT2.out.fcell 8
  simp [fieldCells] at q0 q1 q2
  rw [rounds_succ]
  go_upto_region 4 with fail
  obtain ⟨V2, hV⟩ : ∃ V, w3.alloc (.cells #[.int .i64 1, .func (.func 69) #[] #[], .func (.func 70) #[] #[]] 73) = V := ⟨_, rfl⟩
  obtain ⟨G2, hG⟩ : ∃ G, w3.heap.size = G := ⟨_, rfl⟩
  rw [hV, hG]
  have HX2 : Hid (TW w g (x0 : Int) (x1 : Int) 0 0 V2) := by subst hV; exact HT2.out.next ((Below.refl _ _).alloc (Nat.le_refl _) _)
  have hne : G2 ≠ g := by have := HT2.out.size; omega
  have hf : ∀ j, V2.cell? ⟨G2, j, none⟩ = (#[.int .i64 1, .func (.func 69) #[] #[], .func (.func 70) #[] #[]] : Array Value)[j]? := by subst hV hG; exact fun j => boxed (Below.refl _ _) j
  have hf0 := hf 0
  have hf2 := hf 2
  simp at hf0 hf2
  clear q0 q1 q2 hV hG HT2 hf
  go_wp2_with fail
  refine (K2.out _ HX2.out.bel).mono ?_
  rintro e1 wq ⟨rfl, rfl⟩
  go_wp2_with fail
  refine (setx6_any g x2 (x0 : Int) (x1 : Int) 0 0 _ (by omega) HX2.out.rul).mono ?_
  rintro e1 wq ⟨rfl, rfl⟩
  have hz0 := cell_setCell_far (wx := V2) (g := g) (j := 2) (k := 0) (v := .int .i64 (x2 : Int)) G2 hne
  rw [hf0] at hz0
  have HT3 : Hid (TW w g (x0 : Int) (x1 : Int) (x2 : Int) 0 (V2.setCell ⟨g, 2, none⟩ (.int .i64 (x2 : Int)))) := HX2.out.set 2 _ rfl
  generalize V2.setCell ⟨g, 2, none⟩ (.int .i64 (x2 : Int)) = w4 at *
  clear hf0 hf2 hne HX2 K2
  go_wp2_with fail
  clear hz0
  have q0 := HT3.out.fcell 9
  have q1 := HT3.out.fcell 10
  have q2 := HT3.out.fcell 11
  simp [fieldCells] at q0 q1 q2
  rw [rounds_succ]
  go_upto_region 4 with fail
  obtain ⟨V3, hV⟩ : ∃ V, w4.alloc (.cells #[.int .i64 2, .func (.func 71) #[] #[], .func (.func 72) #[] #[]] 73) = V := ⟨_, rfl⟩
  obtain ⟨G3, hG⟩ : ∃ G, w4.heap.size = G := ⟨_, rfl⟩
  rw [hV, hG]
  have HX3 : Hid (TW w g (x0 : Int) (x1 : Int) (x2 : Int) 0 V3) := by subst hV; exact HT3.out.next ((Below.refl _ _).alloc (Nat.le_refl _) _)
  have hne : G3 ≠ g := by have := HT3.out.size; omega
  have hf : ∀ j, V3.cell? ⟨G3, j, none⟩ = (#[.int .i64 2, .func (.func 71) #[] #[], .func (.func 72) #[] #[]] : Array Value)[j]? := by subst hV hG; exact fun j => boxed (Below.refl _ _) j
  have hf0 := hf 0
  have hf2 := hf 2
  simp at hf0 hf2
  clear q0 q1 q2 hV hG HT3 hf
  go_wp2_with fail
  refine (K3.out _ HX3.out.bel).mono ?_
  rintro e1 wq ⟨rfl, rfl⟩
  have HR := HX3.out.rul
  go_wp2_with (first | (refine wpList_store_row rfl 47 (.tmp 2) (.tmp 23) rfl g (rcs 0 0 0 0) rfl rfl 47 (rcs (x0 : Int) (x1 : Int) (x2 : Int) 0) HR rfl rfl (by simp [rcs, Value.oneCell']) ?_))
  (try simp only [Exit.inBlock, Exit.then])
  exact bodyPost_ret (results_rule rfl _ _ g 0 0 0 0 rfl (setRow_heap _ _ _ _ _ _ HR)) rfl ⟨rfl, below_setRow (by have h := HX3.out.bel; rw [HGG.out]; exact h) (by rw [HGG.out]; exact Nat.le_refl _) _⟩
/-- what Take tells, of any bytes -/
theorem rultake_any (v : Value) (l : List UInt8) (w : World) (hv : IsB w v l) :
    Calls Tryd.prog 88 #[v] w fun e w' => e = .returned (.tuple #[.agg #[.int .u32 ((takeR l).1.at_ : Int), .int .i64 ((takeR l).1.len : Int), .int .i64 ((takeR l).1.act : Int), .int .i64 ((takeR l).1.nxt : Int)], .int .i64 (takeR l).2]) ∧ Below w.heap.size w w' := by
  obtain ⟨A, n, c, rfl, hnc, hcm, hl, hA⟩ := hv
  by_cases h8 : 8 ≤ n
  · rw [takeR_long (by omega)]
    exact rultake_ok A n c l w _ _ _ _ hl hnc hcm hA (by omega) rfl rfl rfl rfl
  · rw [takeR_short (by omega)]
    by_cases h6 : 6 ≤ n
    · exact rultake_no3 A n c l w _ _ _ hl hnc hcm hA (by omega) (by omega) rfl rfl rfl
    · by_cases h5 : n = 5
      · exact rultake_no2 A n c l w _ _ hl hnc hcm hA (by omega) rfl rfl
      · by_cases h4 : n = 4
        · exact rultake_no1 A n c l w _ hl hnc hcm hA (by omega) rfl
        · exact rultake_no0 A n c l w hl hnc hcm hA (by omega)
end Go.Proofs.YtohggpaffmcfoaaDoor
