/- Numbers as texts: the library's contracts in the words of these proofs; the library's table of powers of ten. -/
import Derived.Test.YtloaaaddbmcpdaaDoorByte
import Derived.Test.YtloaaaddbmcpdaaDoorAdrMath
import Derived.Test.YtloaaaddbmcpdaaDoorShelf
import Derived.Lib.AppendIntMem
namespace Go.Proofs.YtloaaaddbmcpdaaDoor
open Go.RowKit
set_option linter.unusedVariables false
set_option linter.unusedSimpArgs false

/-- the library's table of powers of ten, as its initialiser lays it -/
def Tab (w : World) : Prop := Lib.TabIs Tryd.prog w "internal/strconv.uint64pow10" .u64 Lib.pow10Tab
theorem Tab.below {B : Nat} {w w' : World} (h : Tab w) (hb : Below B w w') (hB : w.heap.size ≤ B) : Tab w' := Lib.tabBelow_of_tabIs h w' (hb.mono hB)
theorem Tab.bel {w w' : World} (h : Tab w) (hb : Below w.heap.size w w') : Tab w' := Lib.tabBelow_of_tabIs h w' hb
theorem Tab.drewN {w : World} (h : Tab w) (k : Nat) : Tab (w.drewN k) := h
theorem Tab.alloc {w : World} (h : Tab w) (o : Obj) : Tab (w.alloc o) := Lib.tabIs_alloc h o

theorem itoa_any (n : Nat) (w : World) (hn : (n : Int) ≤ 4294967295) (ht : Hid (Tab w)) :
    Calls Tryd.prog 32 #[.int .i64 n] w fun e w' => e = .returned (.string ⟨(dec n).toArray⟩) ∧ Below w.heap.size w w' := by
  refine (strconv_Itoa (n : Int) (by omega) (by omega) w ht.out).mono ?_
  rintro e w' ⟨rfl, k, os, rfl⟩
  rw [Lib.itoa_nonneg]
  exact ⟨rfl, Lib.below_grow _ _ (Nat.le_refl _) _ _⟩
set_option maxHeartbeats 1000000 in
theorem appu_any (B n u : Nat) (v : Value) (xs : List Value) (w : World) (hu : (u : Int) ≤ 4294967295) (hown : Hid (w.ownsRow B 5 1 v n xs)) (hB : Hid (B ≤ w.heap.size)) (hn : (n : Int) ≤ 1000) (ht : Hid (Tab w)) :
    Calls Tryd.prog 44 #[v, .int .u64 u, .int .i64 10] w fun e w' => ∃ v', e = .returned v' ∧ w'.ownsRow B 5 1 v' (n + (dec u).length) (xs ++ vals (dec u)) ∧ Below B w w' := by
  go_enter Tryd.func44, Tryd.ntmps44
  go_wp2_with fail
  refine (internal_strconv_AppendUint_10 B n u (by omega) v xs _ hown.out hB.out (by omega) ht.out).mono ?_
  rintro e w' ⟨v', rfl, ho, hb, _⟩
  go_wp2_with fail
  go_ret
  exact ⟨_, rfl, ho, hb⟩
/-- how many of the first bits two addresses have alike -/
def com (a b : Nat) : Nat := 32 - Lib.bitLen (a ^^^ b)
theorem lz_any (x : Nat) (w : World) (hx : (x : Int) ≤ 4294967295) :
    Calls Tryd.prog 42 #[.int .u32 x] w fun e w' => e = .returned (.int .i64 ((32 - Lib.bitLen x : Nat) : Int)) ∧ w = w' := by
  refine (bits_LeadingZeros32 (x : Int) w (by omega) hx).mono ?_
  rintro e w' ⟨rfl, rfl⟩
  have h : Lib.bitLen x ≤ 32 := Lib.bitLenAux_le 64 x 32 (by omega)
  refine ⟨?_, rfl⟩
  rw [Int.toNat_natCast, show ((32 - Lib.bitLen x : Nat) : Int) = 32 - (Lib.bitLen x : Int) by omega]
end Go.Proofs.YtloaaaddbmcpdaaDoor
