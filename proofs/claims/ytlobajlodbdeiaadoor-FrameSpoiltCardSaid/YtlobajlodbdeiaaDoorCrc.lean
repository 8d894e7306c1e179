/- Contracts of package crc: Step, More, Sum. -/
import Derived.Test.YtlobajlodbdeiaaDoorByte
import Derived.Test.YtlobajlodbdeiaaDoorCrcMath
import Derived.Laws.BitsAllLaws
namespace Go.Proofs.YtlobajlodbdeiaaDoor
open Go.RowKit
set_option linter.unusedVariables false
set_option linter.unusedSimpArgs false

/-- the package's table, as its initialiser lays it -/
def Tab (w : World) : Prop := ∀ k : Nat, k < 16 → w.cell? ⟨0, k, none⟩ = some (.int .u32 ((hfs 4 k : Nat) : Int))
theorem Tab.bel {w w' : World} (h : Tab w) (hb : Below w.heap.size w w') : Tab w' := fun k hk => by
  have h1 := h k hk
  rw [hb.cell (World.block_lt_of_cell? w _ h1)]
  exact h1
theorem Tab.drewN {w : World} (h : Tab w) (k : Nat) : Tab (w.drewN k) := h

theorem u32_and15 (x : Nat) (h : x ≤ 4294967295) : bits .and .u32 (x : Int) 15 = ((x % 16 : Nat) : Int) := by
  have := u32_and_nat x 15 (by omega) (by omega)
  rw [show (15 : Nat) = 2 ^ 4 - 1 from rfl, Nat.and_two_pow_sub_one_eq_mod] at this
  exact this
theorem hfs4 (x : Nat) : hfs 4 x = (x / 16) ^^^ hfs 4 (x % 16) := hfs_split 4 x
theorem hfs8 (x : Nat) : hfs 8 x = hfs 4 (hfs 4 x) := (hfs_add 4 4 x).symm

theorem half_step (x : Nat) (h : (x : Int) ≤ 4294967295) : bits .xor .u32 ((x : Int) / 16) ((hfs 4 (x % 16) : Nat) : Int) = ((hfs 4 x : Nat) : Int) := by
  have := u32_xor_nat (x / 16) (hfs 4 (x % 16)) (by omega) (hfs_lt 4 _ (by omega))
  rw [← hfs4] at this
  rw [← this]
  rfl
theorem step_any (s c : Nat) (w : World) (hs : (s : Int) ≤ 4294967295) (hc : (c : Int) ≤ 255) (ht : Hid (Tab w)) :
    Calls Tryd.prog 38 #[.int .u32 s, .int .u8 c] w fun e w' => e = .returned (.int .u32 ((stepN s c : Nat) : Int)) ∧ w = w' := by
  have e1 := u32_xor_nat s c (by omega) (by omega)
  have l1 : s ^^^ c < 4294967296 := Nat.xor_lt_two_pow (n := 32) (by omega) (by omega)
  have HS : Hid (stepN s c = hfs 4 (hfs 4 (s ^^^ c))) := hfs8 _
  generalize s ^^^ c = x at *
  have hx : (x : Int) ≤ 4294967295 := by omega
  have e2 := u32_and15 x (by omega)
  have t1 := ht.out (x % 16) (by omega)
  have e3 := half_step x hx
  have l3 := hfs_lt 4 x (by omega)
  generalize hfs 4 x = y at *
  have hy : (y : Int) ≤ 4294967295 := by omega
  have e4 := u32_and15 y (by omega)
  have t2 := ht.out (y % 16) (by omega)
  have e5 := half_step y hy
  clear l1 l3
  go_enter Tryd.func38, Tryd.ntmps38
  go_wp2
  go_ret
  exact ⟨by rw [HS.out]; rfl, rfl⟩
theorem u32_flip (s : Nat) (h : (s : Int) ≤ 4294967295) : bits .xor .u32 IntKind.u32.max (s : Int) = ((flipN s : Nat) : Int) := by
  have := u32_xor_nat 4294967295 s (by omega) (by omega)
  rw [Nat.xor_comm, xor_ones s (by omega)] at this
  exact this
theorem more_core (s : Nat) (A : Option Addr) (n c : Nat) (l : List UInt8) (w : World) (hs : (s : Int) ≤ 4294967295) (hl : Hid (l.length = n)) (hnc : n ≤ c) (hcm : c ≤ maxLen) (hA : Hid (Has w A (vals l))) (ht : Hid (Tab w)) :
    Calls Tryd.prog 35 #[.int .u32 s, .slice A n c] w fun e w' => e = .returned (.int .u32 ((moreN s l : Nat) : Int)) ∧ w = w' := by
  unfold maxLen at hcm
  obtain ⟨R, hR⟩ : ∃ R, moreN s l = R := ⟨_, rfl⟩
  rw [hR]
  have HR := Lib.hid hR
  clear hR
  have e1 := u32_flip s hs
  go_enter Tryd.func35, Tryd.ntmps35
  go_wp2
  go_loop [0, 11] (fun x i => ∃ k y : Nat, k ≤ n ∧ i = .int .i64 k ∧ x = .int .u32 y ∧ (y : Int) ≤ 4294967295 ∧ Hid (y = runN (flipN s) (l.take k))) (fun _ i => n - (intOf i).toNat)
  case atStart => exact ⟨0, flipN s, by omega, rfl, rfl, by have := flipN_le s; omega, rfl⟩
  case round =>
    obtain ⟨k, y, hk, rfl, rfl, hy, HY⟩ := hrel
    by_cases hlt : k < n
    · have hkl : k < l.length := by rw [hl.out]; exact hlt
      obtain ⟨ad, rfl, hcell⟩ := hA.out.at_ (k := k) (by rw [vals_length]; exact hkl)
      rw [vals_at l k hkl] at hcell
      have HD : Hid (stepN y l[k].toNat = runN (flipN s) (l.take (k + 1))) := by
        show _ = _
        rw [HY.out, runN_take _ _ _ hkl]
      have hb2 : (l[k].toNat : Int) ≤ 255 := by have := l[k].toNat_lt; omega
      have hz : (stepN y l[k].toNat : Int) ≤ 4294967295 := by have := stepN_lt y l[k].toNat (by omega) l[k].toNat_lt; omega
      generalize l[k].toNat = b at *
      go_wp2_with fail
      refine (step_any y b _ hy hb2 ht).mono ?_
      rintro e w' ⟨rfl, rfl⟩
      generalize stepN y b = z at *
      go_wp2_with fail
      go_round
      case rel => exact ⟨k + 1, z, by omega, by go_num, rfl, hz, HD⟩
      case measure => simp [intOf]; omega
    · have hks : k = n := by omega
      subst hks
      have e2 := u32_flip y hy
      have HE : Hid (R = flipN y) := by
        show _ = _
        rw [← HR.out, HY.out, ← hl.out, List.take_length]
        rfl
      clear e1
      go_wp2
      go_ret
      exact ⟨by rw [HE.out]; rfl, rfl⟩
theorem more_any (s : Nat) (v : Value) (l : List UInt8) (w : World) (hs : (s : Int) ≤ 4294967295) (hv : IsB w v l) (ht : Hid (Tab w)) :
    Calls Tryd.prog 35 #[.int .u32 s, v] w fun e w' => e = .returned (.int .u32 ((moreN s l : Nat) : Int)) ∧ w = w' := by
  obtain ⟨A, n, c, rfl, hnc, hcm, hl, hA⟩ := hv
  exact more_core s A n c l w hs hl hnc hcm hA ht
theorem sum_any (v : Value) (l : List UInt8) (w : World) (hv : IsB w v l) (ht : Hid (Tab w)) :
    Calls Tryd.prog 20 #[v] w fun e w' => e = .returned (.int .u32 ((sumN l : Nat) : Int)) ∧ w = w' := by
  obtain ⟨A, n, c, rfl, hnc, hcm, hl, hA⟩ := hv
  have HX := Lib.hid hcm
  have HL := Lib.hid hl
  have HA := Lib.hid hA
  clear hcm hl hA
  go_enter Tryd.func20, Tryd.ntmps20
  go_wp2_with fail
  refine (more_core 0 A n c l _ (by omega) HL.out hnc HX.out HA.out ht).mono ?_
  rintro e w' ⟨rfl, rfl⟩
  rw [show moreN 0 l = sumN l from rfl]
  go_wp2_with fail
  go_ret
  exact ⟨rfl, rfl⟩
end Go.Proofs.YtlobajlodbdeiaaDoor
