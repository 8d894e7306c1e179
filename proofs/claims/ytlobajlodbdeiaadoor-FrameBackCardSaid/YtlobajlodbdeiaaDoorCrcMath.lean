/- Plain mathematics of the sum of bytes: half a step, four of them, eight of them, a row of bytes; all of them go through 'exclusive or'. No function of the program is named here. -/
import Derived.Lib.Hide
namespace Go.Proofs.YtlobajlodbdeiaaDoor
set_option linter.unusedVariables false
set_option linter.unusedSimpArgs false

/-- one shift -/
def hf (x : Nat) : Nat := if x % 2 = 1 then (x / 2) ^^^ 2197175160 else x / 2
/-- so many shifts -/
def hfs : Nat → Nat → Nat
  | 0, x => x
  | k + 1, x => hf (hfs k x)
/-- a sum behind a byte -/
def stepN (s c : Nat) : Nat := hfs 8 (s ^^^ c)
/-- what bytes make of a sum that is turned -/
def runN (s : Nat) (l : List UInt8) : Nat := l.foldl (fun s c => stepN s c.toNat) s
def flipN (s : Nat) : Nat := 4294967295 - s
def moreN (s : Nat) (l : List UInt8) : Nat := flipN (runN (flipN s) l)
def sumN (l : List UInt8) : Nat := moreN 0 l

theorem xor_mod2 (a b : Nat) : (a ^^^ b) % 2 = (a % 2 + b % 2) % 2 := by
  have h := Nat.testBit_xor a b 0
  simp only [Nat.testBit_zero] at h
  have ha := Nat.mod_two_eq_zero_or_one a
  have hb := Nat.mod_two_eq_zero_or_one b
  have hc := Nat.mod_two_eq_zero_or_one (a ^^^ b)
  rcases ha with ha | ha <;> rcases hb with hb | hb <;> rcases hc with hc | hc <;> simp [ha, hb, hc] at h ⊢
theorem xor_div2 (a b : Nat) : (a ^^^ b) / 2 = (a / 2) ^^^ (b / 2) := by
  have h := Nat.shiftRight_xor_distrib (a := a) (b := b) (i := 1)
  simpa [Nat.shiftRight_eq_div_pow] using h
theorem hf_xor (a b : Nat) : hf (a ^^^ b) = hf a ^^^ hf b := by
  unfold hf
  rw [xor_mod2, xor_div2]
  have ha := Nat.mod_two_eq_zero_or_one a
  have hb := Nat.mod_two_eq_zero_or_one b
  rcases ha with ha | ha <;> rcases hb with hb | hb <;> simp only [ha, hb] <;> simp
  · rw [Nat.xor_assoc]
  · rw [Nat.xor_assoc, Nat.xor_assoc, Nat.xor_comm 2197175160]
  · rw [Nat.xor_assoc, Nat.xor_comm 2197175160, Nat.xor_assoc, Nat.xor_self, Nat.xor_zero]
theorem hfs_xor (k a b : Nat) : hfs k (a ^^^ b) = hfs k a ^^^ hfs k b := by
  induction k with
  | zero => rfl
  | succ k ih => rw [hfs, ih, hf_xor]; rfl
theorem hf_lt (x : Nat) (h : x < 4294967296) : hf x < 4294967296 := by
  unfold hf
  split
  · exact Nat.xor_lt_two_pow (n := 32) (by omega) (by omega)
  · omega
theorem hfs_lt (k x : Nat) (h : x < 4294967296) : hfs k x < 4294967296 := by
  induction k with
  | zero => exact h
  | succ k ih => exact hf_lt _ ih
theorem hf_double (y : Nat) : hf (2 * y) = y := by unfold hf; rw [if_neg (by omega)]; omega
theorem hfs_up (k x : Nat) : hfs (k + 1) x = hfs k (hf x) := by
  induction k with
  | zero => rfl
  | succ k ih => rw [hfs, ih]; rfl
theorem hfs_pow (k y : Nat) : hfs k (2 ^ k * y) = y := by
  induction k generalizing y with
  | zero => simp [hfs]
  | succ k ih => rw [hfs_up, Nat.pow_succ, Nat.mul_comm (2 ^ k), Nat.mul_assoc, hf_double, ih]
theorem hfs_add (j k x : Nat) : hfs j (hfs k x) = hfs (j + k) x := by
  induction j with
  | zero => rw [Nat.zero_add]; rfl
  | succ j ih => rw [Nat.succ_add, hfs, ih]; rfl
/-- a number is its high bits and its low ones -/
theorem split_xor (k x : Nat) : x = (2 ^ k * (x / 2 ^ k)) ^^^ (x % 2 ^ k) := by
  apply Nat.eq_of_testBit_eq
  intro i
  rw [Nat.testBit_xor, Nat.testBit_mod_two_pow, Nat.testBit_two_pow_mul, Nat.testBit_div_two_pow]
  by_cases h : i < k
  · simp [h, show ¬ k ≤ i by omega]
  · simp [h, show k ≤ i by omega, show i - k + k = i by omega]
theorem hfs_split (k x : Nat) : hfs k x = (x / 2 ^ k) ^^^ hfs k (x % 2 ^ k) := by
  conv => lhs; rw [split_xor k x]
  rw [hfs_xor, hfs_pow]
theorem stepN_lt (s c : Nat) (hs : s < 4294967296) (hc : c < 256) : stepN s c < 4294967296 := hfs_lt _ _ (Nat.xor_lt_two_pow (n := 32) (by omega) (by omega))
theorem stepN_xor (s t c d : Nat) : stepN s c ^^^ stepN t d = stepN (s ^^^ t) (c ^^^ d) := by
  unfold stepN
  rw [← hfs_xor]
  congr 1
  apply Nat.eq_of_testBit_eq
  intro i
  simp only [Nat.testBit_xor]
  cases s.testBit i <;> cases t.testBit i <;> cases c.testBit i <;> cases d.testBit i <;> rfl
theorem stepN_zero : stepN 0 0 = 0 := by decide
/-- the byte that is the sum's own lowest one -/
theorem stepN_own (s : Nat) : stepN s (s % 256) = s / 256 := by
  have h : s ^^^ (s % 256) = 256 * (s / 256) := by
    have h1 := split_xor 8 s
    rw [show (2 : Nat) ^ 8 = 256 from rfl] at h1
    conv => lhs; rw [h1]
    have h2 : ((256 * (s / 256)) ^^^ (s % 256)) % 256 = s % 256 := by rw [← h1]
    rw [h2, Nat.xor_assoc, Nat.xor_self, Nat.xor_zero]
  unfold stepN
  rw [h]
  exact hfs_pow 8 _
theorem flipN_le (s : Nat) : flipN s ≤ 4294967295 := by unfold flipN; omega
theorem flip_flip (s : Nat) (h : s ≤ 4294967295) : flipN (flipN s) = s := by unfold flipN; omega
theorem xor_ones (s : Nat) (h : s ≤ 4294967295) : s ^^^ 4294967295 = flipN s := by
  apply Nat.eq_of_testBit_eq
  intro i
  have h2 := Nat.testBit_two_pow_sub_succ (x := s) (n := 32) (by omega) i
  rw [show flipN s = 2 ^ 32 - (s + 1) from by unfold flipN; omega, h2, Nat.testBit_xor, show (4294967295 : Nat) = 2 ^ 32 - 1 from rfl, Nat.testBit_two_pow_sub_one]
  by_cases hi : i < 32
  · simp [hi]
  · have : s.testBit i = false := Nat.testBit_lt_two_pow (Nat.lt_of_lt_of_le (by omega : s < 2 ^ 32) (Nat.pow_le_pow_right (by omega) (by omega)))
    simp [hi, this]
theorem runN_le (s : Nat) (l : List UInt8) (h : s ≤ 4294967295) : runN s l ≤ 4294967295 := by
  induction l generalizing s with
  | nil => exact h
  | cons c l ih => exact ih (stepN s c.toNat) (by have := stepN_lt s c.toNat (by omega) c.toNat_lt; omega)
theorem runN_append (s : Nat) (a b : List UInt8) : runN s (a ++ b) = runN (runN s a) b := by simp [runN]
theorem runN_snoc (s : Nat) (a : List UInt8) (c : UInt8) : runN s (a ++ [c]) = stepN (runN s a) c.toNat := by simp [runN]
theorem runN_take (s : Nat) (l : List UInt8) (k : Nat) (h : k < l.length) : runN s (l.take (k + 1)) = stepN (runN s (l.take k)) l[k].toNat := by
  rw [List.take_succ_eq_append_getElem h, runN_snoc]
theorem moreN_le (s : Nat) (l : List UInt8) : moreN s l ≤ 4294967295 := flipN_le _
theorem moreN_append (s : Nat) (a b : List UInt8) : moreN (moreN s a) b = moreN s (a ++ b) := by
  unfold moreN
  rw [flip_flip _ (runN_le _ _ (flipN_le _)), runN_append]
theorem moreN_nil (s : Nat) (h : s ≤ 4294967295) : moreN s [] = s := flip_flip s h
/-- two rows, turned where unlike -/
def mixN (a b : List UInt8) : List UInt8 := List.zipWith (· ^^^ ·) a b
theorem runN_mix (a : List UInt8) : ∀ (b : List UInt8) (s t : Nat), a.length = b.length → runN s a ^^^ runN t b = runN (s ^^^ t) (mixN a b) := by
  induction a with
  | nil =>
    intro b s t h
    obtain rfl : b = [] := List.eq_nil_of_length_eq_zero h.symm
    rfl
  | cons c a ih =>
    intro b s t h
    cases b with
    | nil => simp at h
    | cons d b =>
      simp only [runN, mixN, List.foldl_cons, List.zipWith_cons_cons] at ih ⊢
      rw [ih b _ _ (by simpa using h), stepN_xor, UInt8.toNat_xor]
theorem flip_xor (s t : Nat) (hs : s ≤ 4294967295) (ht : t ≤ 4294967295) : flipN s ^^^ flipN t = s ^^^ t := by
  rw [← xor_ones s hs, ← xor_ones t ht, Nat.xor_comm t, Nat.xor_assoc, ← Nat.xor_assoc 4294967295, Nat.xor_self, Nat.zero_xor]
theorem mix_zero (a : List UInt8) : mixN a (List.replicate a.length 0) = a := by
  induction a with
  | nil => rfl
  | cons c a ih => simp only [mixN, List.length_cons, List.replicate_succ, List.zipWith_cons_cons] at ih ⊢; rw [ih]; simp
theorem sumN_mix (a b : List UInt8) (h : a.length = b.length) : sumN a ^^^ sumN b = sumN (mixN a b) ^^^ sumN (List.replicate a.length 0) := by
  unfold sumN moreN
  rw [flip_xor _ _ (runN_le _ _ (flipN_le _)) (runN_le _ _ (flipN_le _)), flip_xor _ _ (runN_le _ _ (flipN_le _)) (runN_le _ _ (flipN_le _)), runN_mix _ _ _ _ h]
  have hl : (mixN a b).length = a.length := by simp [mixN, h]
  rw [runN_mix _ _ _ _ (by rw [hl, List.length_replicate]), ← hl, mix_zero, Nat.xor_self]
end Go.Proofs.YtlobajlodbdeiaaDoor
