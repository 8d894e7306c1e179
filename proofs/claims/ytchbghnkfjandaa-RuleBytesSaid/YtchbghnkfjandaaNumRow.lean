/- Layer 1: num.Row: its contract. -/
import Derived.Test.YtchbghnkfjandaaNum
namespace Go.Proofs.Ytchbghnkfjandaa
open Go.RowKit
set_option linter.unusedVariables false
set_option linter.unusedSimpArgs false
def fits (s : Nat) (n : Int) : Prop := 0 ≤ n ∧ n.toNat < 256 ^ s
def rowb (s : Nat) (l : List Int) : List UInt8 := l.flatMap fun n => be s n.toNat
theorem rowb_length (s : Nat) (l : List Int) : (rowb s l).length = l.length * s := by
  induction l with
  | nil => simp [rowb]
  | cons a l ih => simp only [rowb, List.flatMap_cons, List.length_append, be_length, List.length_cons] at ih ⊢; rw [ih, Nat.add_mul]; omega
theorem rowb_take_succ (s : Nat) (l : List Int) (k : Nat) (h : k < l.length) : rowb s (l.take (k + 1)) = rowb s (l.take k) ++ be s l[k].toNat := by
  rw [take_snoc_get l k h, rowb, List.flatMap_append]
  simp [rowb]
theorem row_bad (v : Value) (size : Int) (w : World) (h : ¬ (1 ≤ size ∧ size ≤ 4)) :
    Calls Try.prog 21 #[.int .i64 size, v] w fun e w' => e = .returned (.tuple #[.slice none 0 0, .int .i64 1]) ∧ w = w' := by
  have hb := mayB_no h
  clear h
  go_enter Try.func21, Try.ntmps21
  go_wp2_with (go_at_call 31; refine (sizeMay_any _ _).mono ?_; rintro e w' ⟨rfl, rfl⟩)
  go_ret2
  exact ⟨rfl, rfl⟩
def zeros (n : Nat) : Array Value := madeCells #[.int .u8 0] n
theorem zeros_size (n : Nat) : (zeros n).size = n := size_madeCells _ _
theorem run_make_zeros (s n : Nat) (h1 : 1 ≤ s) (h2 : s ≤ 4) (hn : n ≤ 1048576) (W : World) :
    (Instr.makeSlice 26 (.int .i64 0) (.int .i64 (wrap64 (↑s * ↑n)))).run Try.prog W = .ok (.slice (some ⟨W.heap.size, 0, none⟩) 0 (n * s)) (W.alloc (.cells (zeros (n * s)) 5)) := by
  obtain ⟨i0, hi0, hz0, hz1, hz2⟩ := info_parts byte_info
  have h3 : n * s ≤ n * 4 := Nat.mul_le_mul_left _ h2
  have h4 : ((s : Int) * (n : Int)) = ((n * s : Nat) : Int) := by rw [Int.natCast_mul, Int.mul_comm]
  have h5 : wrap64 ((s : Int) * (n : Int)) = ((n * s : Nat) : Int) := by rw [h4]; exact IntWalk.wrap64_in _ (by omega)
  rw [h5]
  have := run_make (P := Try.prog) W 26 5 i0 (.int .u8 0) Try.underlying26 hi0 hz0 .i64 .i64 0 (n * s : Nat) (by omega) (by omega) (by rw [hz2]; omega) (by omega)
  rw [this, hz1, Int.toNat_natCast, Int.toNat_zero, Nat.mul_one]
  rfl
theorem row_core (A : Option Addr) (n c : Nat) (l : List Int) (s : Nat) (w : World) (hl : l.length = n) (hn : n ≤ 1048576) (hA : Has w A (ints l)) (h1 : 1 ≤ (s : Int)) (h2 : (s : Int) ≤ 4) (hf : ∀ x ∈ l, fits s x) :
    Calls Try.prog 21 #[.int .i64 s, .slice A n c] w fun e w' => ∃ v, e = .returned (.tuple #[v, .int .i64 0]) ∧ w'.ownsRow w.heap.size 5 1 v (n * s) (vals (rowb s l)) ∧ Below w.heap.size w w' := by
  have hb := mayB_yes ⟨h1, h2⟩
  have HL := Lib.hid hl
  clear hl
  have HF := Lib.hid hf
  clear hf
  have hA0 := Lib.hid hA
  clear hA
  have hmk := run_make_zeros s n (by omega) (by omega) hn
  obtain ⟨i0, hi0, hz0, hz1, hz2⟩ := info_parts byte_info
  have HI : Hid (Try.prog.info? 5 = some i0 ∧ i0.zero = some (.int .u8 0) ∧ i0.size = 1 ∧ i0.bytes = 1) := ⟨hi0, hz0, hz1, hz2⟩
  clear hi0 hz0 hz1 hz2
  go_enter Try.func21, Try.ntmps21
  go_wp2_with (go_at_call 31; refine (sizeMay_any _ _).mono ?_; rintro e w' ⟨rfl, rfl⟩)
  clear hmk hb
  obtain ⟨B, hB⟩ : ∃ B, B = w.heap.size := ⟨_, rfl⟩
  have HB := Lib.hid hB
  clear hB
  go_loopw [6, 21] (fun v i wr => ∃ k : Nat, k ≤ n ∧ i = .int .i64 k ∧ wr.ownsRow B 5 1 v (k * s) (vals (rowb s (l.take k))) ∧ Below B w wr) (fun _ i _ => n - (intOf i).toNat)
  case atStart =>
    refine ⟨0, Nat.zero_le _, rfl, ?_, ?_⟩
    · rw [HB.out]
      simpa [rowb, vals] using World.ownsRow_made (e := 5) (size := 1) w (zeros (n * s)) (n * s) (Nat.le_refl _) (by unfold maxLen; have : n * s ≤ n * 4 := Nat.mul_le_mul_left _ (by omega); omega) (by rw [zeros_size]; omega)
    · rw [HB.out]
      exact (Below.refl _ _).alloc (Nat.le_refl _) _
  case round =>
    obtain ⟨k, hk, rfl, hown, hbel⟩ := hrel
    by_cases hlt : k < n
    · have hkl : k < l.length := by rw [HL.out]; exact hlt
      obtain ⟨hx1, hx2⟩ := HF.out l[k] (List.getElem_mem hkl)
      obtain ⟨ad, rfl, hcell⟩ := hA0.out.at_ (k := k) (by rw [ints_length]; exact hkl)
      rw [ints_at l k hkl] at hcell
      obtain ⟨hi0, hz0, hz1, hz2⟩ := HI.out
      have HC := Lib.hid hcell
      clear hcell
      have hcell : wr.cell? (ad.add k) = some (.int .i64 l[k]) := by
        rw [hbel.cell (by rw [HB.out]; exact World.block_lt_of_cell? w _ HC.out)]
        exact HC.out
      have HW := Lib.hid hown
      have HBe := Lib.hid hbel
      clear hown hbel
      have h3 : k * s ≤ n * 4 := Nat.mul_le_mul (by omega) (by omega)
      go_wp2_with (first
        | (go_at_call 20; refine (put_ok _ _ _ h1 h2 hx1 (by simpa using hx2)).mono ?_; rintro e w' ⟨rfl, rfl⟩)
        | (at_builtin; refine wpList_append_has _ rfl (.tmp 34) (.tmp 35) _ rfl B 5 i0 (.int .u8 0) 1 Try.underlying26 hi0 hz0 hz1 hz2 rfl _ (k * s) _ rfl (HW.out.alloc _) _ s _ (vals (be s l[k].toNat)) rfl (by rw [vals_length, be_length]) (Has.new _ _ _ _) (vals_one _) (by unfold maxLen; omega) (by omega) (by have := HBe.out.size; rw [← HB.out] at this; simp only [World.size_alloc]; omega) ?_; intro v' w1 hown1 hgrow1 _; have HO := Lib.hid hown1; have HG := Lib.hid hgrow1; clear hown1 hgrow1))
      go_roundw
      case rel =>
        refine ⟨k + 1, by omega, by go_num, ?_, ?_⟩
        · rw [rowb_take_succ s l k hkl, vals_append, Nat.add_mul, Nat.one_mul]
          exact HO.out
        · refine (HBe.out.alloc (by have := HBe.out.size; rw [← HB.out] at this; exact this) _).grown HG.out (by have := HBe.out.size; rw [← HB.out] at this; simp only [World.size_alloc]; omega) (fun g hg => (HW.out.lt g hg).1)
      case measure => simp [intOf]; omega
    · go_wp2
      go_ret2
      have : k = n := by omega
      subst this
      rw [List.take_of_length_le (by rw [HL.out]; omega)] at hown
      rw [HB.out] at hown hbel
      exact ⟨_, rfl, hown, hbel⟩
/-- Row with one that does not fit: the first of these is told. -/
theorem row_miss (A : Option Addr) (n c : Nat) (l : List Int) (s : Nat) (w : World) (hl : l.length = n) (hn : n ≤ 1048576) (hA : Has w A (ints l)) (h1 : 1 ≤ (s : Int)) (h2 : (s : Int) ≤ 4) (j : Nat) (hj : j < n) (hf : ∀ x ∈ l.take j, fits s x) (hm : ∀ x, l[j]? = some x → x < 0 ∨ 256 ^ s ≤ x.toNat) :
    Calls Try.prog 21 #[.int .i64 s, .slice A n c] w fun e w' => e = .returned (.tuple #[.slice none 0 0, .int .i64 1]) ∧ Below w.heap.size w w' := by
  have hb := mayB_yes ⟨h1, h2⟩
  have HL := Lib.hid hl
  clear hl
  have HF := Lib.hid hf
  have HM := Lib.hid hm
  clear hf hm
  have hA0 := Lib.hid hA
  clear hA
  have hmk := run_make_zeros s n (by omega) (by omega) hn
  obtain ⟨i0, hi0, hz0, hz1, hz2⟩ := info_parts byte_info
  have HI : Hid (Try.prog.info? 5 = some i0 ∧ i0.zero = some (.int .u8 0) ∧ i0.size = 1 ∧ i0.bytes = 1) := ⟨hi0, hz0, hz1, hz2⟩
  clear hi0 hz0 hz1 hz2
  go_enter Try.func21, Try.ntmps21
  go_wp2_with (go_at_call 31; refine (sizeMay_any _ _).mono ?_; rintro e w' ⟨rfl, rfl⟩)
  clear hmk hb
  obtain ⟨B, hB⟩ : ∃ B, B = w.heap.size := ⟨_, rfl⟩
  have HB := Lib.hid hB
  clear hB
  go_loopw [6, 21] (fun v i wr => ∃ k : Nat, k ≤ j ∧ i = .int .i64 k ∧ wr.ownsRow B 5 1 v (k * s) (vals (rowb s (l.take k))) ∧ Below B w wr) (fun _ i _ => n - (intOf i).toNat)
  case atStart =>
    refine ⟨0, Nat.zero_le _, rfl, ?_, ?_⟩
    · rw [HB.out]
      simpa [rowb, vals] using World.ownsRow_made (e := 5) (size := 1) w (zeros (n * s)) (n * s) (Nat.le_refl _) (by unfold maxLen; have : n * s ≤ n * 4 := Nat.mul_le_mul_left _ (by omega); omega) (by rw [zeros_size]; omega)
    · rw [HB.out]
      exact (Below.refl _ _).alloc (Nat.le_refl _) _
  case round =>
    obtain ⟨k, hk, rfl, hown, hbel⟩ := hrel
    by_cases hlt : k < j
    · have hkl : k < l.length := by rw [HL.out]; omega
      obtain ⟨hx1, hx2⟩ := HF.out l[k] (by rw [show l[k] = (l.take j)[k]'(by rw [List.length_take]; omega) from by simp]; exact List.getElem_mem _)
      obtain ⟨ad, rfl, hcell⟩ := hA0.out.at_ (k := k) (by rw [ints_length]; exact hkl)
      rw [ints_at l k hkl] at hcell
      obtain ⟨hi0, hz0, hz1, hz2⟩ := HI.out
      have HC := Lib.hid hcell
      clear hcell
      have hcell : wr.cell? (ad.add k) = some (.int .i64 l[k]) := by
        rw [hbel.cell (by rw [HB.out]; exact World.block_lt_of_cell? w _ HC.out)]
        exact HC.out
      have HW := Lib.hid hown
      have HBe := Lib.hid hbel
      clear hown hbel
      have h3 : k * s ≤ n * 4 := Nat.mul_le_mul (by omega) (by omega)
      go_wp2_with (first
        | (go_at_call 20; refine (put_ok _ _ _ h1 h2 hx1 (by simpa using hx2)).mono ?_; rintro e w' ⟨rfl, rfl⟩)
        | (at_builtin; refine wpList_append_has _ rfl (.tmp 34) (.tmp 35) _ rfl B 5 i0 (.int .u8 0) 1 Try.underlying26 hi0 hz0 hz1 hz2 rfl _ (k * s) _ rfl (HW.out.alloc _) _ s _ (vals (be s l[k].toNat)) rfl (by rw [vals_length, be_length]) (Has.new _ _ _ _) (vals_one _) (by unfold maxLen; omega) (by omega) (by have := HBe.out.size; rw [← HB.out] at this; simp only [World.size_alloc]; omega) ?_; intro v' w1 hown1 hgrow1 _; have HO := Lib.hid hown1; have HG := Lib.hid hgrow1; clear hown1 hgrow1))
      go_roundw
      case rel =>
        refine ⟨k + 1, by omega, by go_num, ?_, ?_⟩
        · rw [rowb_take_succ s l k hkl, vals_append, Nat.add_mul, Nat.one_mul]
          exact HO.out
        · refine (HBe.out.alloc (by have := HBe.out.size; rw [← HB.out] at this; exact this) _).grown HG.out (by have := HBe.out.size; rw [← HB.out] at this; simp only [World.size_alloc]; omega) (fun g hg => (HW.out.lt g hg).1)
      case measure => simp [intOf]; omega
    · have hkj : k = j := by omega
      subst hkj
      have hkl : k < l.length := by rw [HL.out]; omega
      have hx := HM.out l[k] (List.getElem?_eq_getElem hkl)
      obtain ⟨ad, rfl, hcell⟩ := hA0.out.at_ (k := k) (by rw [ints_length]; exact hkl)
      rw [ints_at l k hkl] at hcell
      have HC := Lib.hid hcell
      clear hcell
      have hcell : wr.cell? (ad.add k) = some (.int .i64 l[k]) := by
        rw [hbel.cell (by rw [HB.out]; exact World.block_lt_of_cell? w _ HC.out)]
        exact HC.out
      have HBe := Lib.hid hbel
      clear hown hbel
      go_wp2_with (go_at_call 20; refine (put_no _ _ _ (.inr (by simpa using hx))).mono ?_; rintro e w' ⟨rfl, rfl⟩)
      go_ret2
      exact ⟨rfl, by have := HBe.out; rw [HB.out] at this; exact this⟩

theorem row_ok (A : Option Addr) (n c : Nat) (l : List Int) (size : Int) (w : World) (hl : l.length = n) (hn : n ≤ 1048576) (hA : Has w A (ints l)) (h1 : 1 ≤ size) (h2 : size ≤ 4) (hf : ∀ x ∈ l, fits size.toNat x) :
    Calls Try.prog 21 #[.int .i64 size, .slice A n c] w fun e w' => ∃ v, e = .returned (.tuple #[v, .int .i64 0]) ∧ w'.ownsRow w.heap.size 5 1 v (n * size.toNat) (vals (rowb size.toNat l)) ∧ Below w.heap.size w w' := by
  obtain ⟨s, rfl⟩ := Int.eq_ofNat_of_zero_le (show 0 ≤ size by omega)
  rw [Int.toNat_natCast] at hf ⊢
  exact row_core A n c l s w hl hn hA h1 h2 hf
theorem row_no (A : Option Addr) (n c : Nat) (l : List Int) (size : Int) (w : World) (hl : l.length = n) (hn : n ≤ 1048576) (hA : Has w A (ints l)) (h1 : 1 ≤ size) (h2 : size ≤ 4)
    (j : Nat) (hj : j < n) (hf : ∀ x ∈ l.take j, fits size.toNat x) (hm : ∀ x, l[j]? = some x → x < 0 ∨ 256 ^ size.toNat ≤ x.toNat) :
    Calls Try.prog 21 #[.int .i64 size, .slice A n c] w fun e w' => e = .returned (.tuple #[.slice none 0 0, .int .i64 1]) ∧ Below w.heap.size w w' := by
  obtain ⟨s, rfl⟩ := Int.eq_ofNat_of_zero_le (show 0 ≤ size by omega)
  rw [Int.toNat_natCast] at hf hm
  exact row_miss A n c l s w hl hn hA h1 h2 j hj hf hm
/-- what Row tells: all that fit, or nothing -/
def fitsB (s : Nat) (n : Int) : Bool := decide (0 ≤ n ∧ n.toNat < 256 ^ s)
theorem fitsB_iff {s : Nat} {n : Int} : fitsB s n = true ↔ fits s n := by simp [fitsB, fits]
def rowS (size : Int) (l : List Int) : List UInt8 × Int := if (1 ≤ size ∧ size ≤ 4) ∧ l.all (fitsB size.toNat) = true then (rowb size.toNat l, 0) else ([], 1)
/-- the first that does not fit -/
theorem first_miss (s : Nat) : ∀ (l : List Int), ¬ (l.all (fitsB s) = true) → ∃ j, j < l.length ∧ (∀ x ∈ l.take j, fits s x) ∧ ∀ x, l[j]? = some x → x < 0 ∨ 256 ^ s ≤ x.toNat
  | [], h => absurd rfl h
  | a :: l, h => by
    by_cases ha : fits s a
    · have hl : ¬ (l.all (fitsB s) = true) := fun h2 => h (by rw [List.all_cons, fitsB_iff.2 ha, h2]; rfl)
      obtain ⟨j, hj, h1, h2⟩ := first_miss s l hl
      refine ⟨j + 1, by simpa using hj, fun x hx => ?_, fun x hx => h2 x (by simpa using hx)⟩
      rw [List.take_succ_cons] at hx
      rcases List.mem_cons.1 hx with rfl | hx
      · exact ha
      · exact h1 x hx
    · refine ⟨0, by simp, by simp, fun x hx => ?_⟩
      simp only [List.getElem?_cons_zero, Option.some.injEq] at hx
      subst hx
      unfold fits at ha
      omega
theorem row_any (v : Value) (l : List Int) (size : Int) (w : World) (hv : IsI w v l) (hn : l.length ≤ 1048576) : Calls Try.prog 21 #[.int .i64 size, v] w fun e w' =>
    ∃ r, e = .returned (.tuple #[r, .int .i64 (rowS size l).2]) ∧ IsB w' r (rowS size l).1 ∧ Below w.heap.size w w' := by
  by_cases h : 1 ≤ size ∧ size ≤ 4
  · obtain ⟨A, n, c, rfl, hnc, hcm, hl, hA⟩ := hv
    by_cases h2 : l.all (fitsB size.toNat) = true
    · rw [rowS, if_pos ⟨h, h2⟩]
      refine (row_ok A n c l size w hl (by omega) hA h.1 h.2 (fun x hx => fitsB_iff.1 (List.all_eq_true.1 h2 x hx))).mono ?_
      rintro e w' ⟨r, rfl, hown, hb⟩
      exact ⟨r, rfl, IsB.of_own hown, hb⟩
    · rw [rowS, if_neg (fun h3 => h2 h3.2)]
      obtain ⟨j, hj, h3, h4⟩ := first_miss _ l h2
      refine (row_no A n c l size w hl (by omega) hA h.1 h.2 j (by omega) h3 h4).mono ?_
      rintro e w' ⟨rfl, hb⟩
      exact ⟨_, rfl, IsB.nil_ _, hb⟩
  · rw [rowS, if_neg (fun h3 => h h3.1)]
    refine (row_bad v size w h).mono ?_
    rintro e w' ⟨rfl, rfl⟩
    exact ⟨_, rfl, IsB.nil_ _, Below.refl _ _⟩
end Go.Proofs.Ytchbghnkfjandaa
