/- Plain mathematics of layer 6: first bits of addresses, what prefixes hold, their order, their texts. -/
import Derived.Test.YtpfpkghihpcbkaaAdrMath
namespace Go.Proofs.Ytpfpkghihpcbkaa
open Go.Lib
set_option linter.unusedVariables false
set_option linter.unusedSimpArgs false

/-! first bits -/
def mskN (k : Nat) : Nat := 4294967296 - 2 ^ (32 - k)
def loN (a k : Nat) : Nat := a / 2 ^ (32 - k) * 2 ^ (32 - k)
def hiN (a k : Nat) : Nat := loN a k + (2 ^ (32 - k) - 1)
def holdB (a k b : Nat) : Bool := decide (loN a k = loN b k)
def cl (n : Int) : Nat := (min (max n 0) 32).toNat
def mayI (a : Nat) (n : Int) : Int := if n < 0 ∨ 32 < n then 1 else if loN a (cl n) = a then 0 else 8
def cmpI (a : Nat) (m : Int) (b : Nat) (n : Int) : Int := if a < b ∨ (a = b ∧ m < n) then -1 else if a = b ∧ m = n then 0 else 1
theorem cl_le (n : Int) : cl n ≤ 32 := by unfold cl; omega
theorem cl_nat (k : Nat) (h : k ≤ 32) : cl (k : Int) = k := by unfold cl; omega
theorem pw_pos (k : Nat) : 0 < 2 ^ (32 - k) := Nat.pos_of_ne_zero (by simp)
theorem pw_le (k : Nat) : 2 ^ (32 - k) ≤ 4294967296 := Nat.le_trans (Nat.pow_le_pow_right (by omega) (show 32 - k ≤ 32 by omega)) (by decide)
theorem pw_half (k : Nat) (h : k < 32) : 2 ^ (32 - k) = 2 ^ (32 - (k + 1)) + 2 ^ (32 - (k + 1)) := by
  rw [show 32 - k = (32 - (k + 1)) + 1 by omega, Nat.pow_succ]
  omega
theorem lo_dvd (a k : Nat) : 2 ^ (32 - k) ∣ loN a k := Nat.dvd_mul_left _ _
theorem lo_le (a k : Nat) : loN a k ≤ a := Nat.div_mul_le_self _ _
theorem lo_gt (a k : Nat) : a < loN a k + 2 ^ (32 - k) := by
  have h := Nat.lt_mul_div_succ a (pw_pos k)
  rw [Nat.mul_add, Nat.mul_one, Nat.mul_comm] at h
  exact h
theorem lo_of_dvd {a k : Nat} (h : 2 ^ (32 - k) ∣ a) : loN a k = a := Nat.div_mul_cancel h
theorem lo_lo (a k : Nat) : loN (loN a k) k = loN a k := lo_of_dvd (lo_dvd a k)
/-- what lies between is a multiple, and below the next one -/
theorem lo_unique {a k q : Nat} (hd : 2 ^ (32 - k) ∣ q) (h1 : q ≤ a) (h2 : a < q + 2 ^ (32 - k)) : loN a k = q := by
  obtain ⟨c, rfl⟩ := hd
  unfold loN
  have : a / 2 ^ (32 - k) = c := by
    apply Nat.div_eq_of_lt_le
    · rw [Nat.mul_comm]; exact h1
    · rw [Nat.mul_comm, Nat.mul_add, Nat.mul_one]; exact h2
  rw [this, Nat.mul_comm]
theorem hold_iff (a k b : Nat) : holdB a k b = true ↔ loN a k ≤ b ∧ b < loN a k + 2 ^ (32 - k) := by
  unfold holdB
  rw [decide_eq_true_iff]
  constructor
  · intro h
    rw [h]
    exact ⟨lo_le b k, lo_gt b k⟩
  · rintro ⟨h1, h2⟩
    exact (lo_unique (lo_dvd a k) h1 h2).symm
theorem hold_lo (a k b : Nat) : holdB (loN a k) k b = holdB a k b := by unfold holdB; rw [lo_lo]
theorem hold_comm (a k b : Nat) : holdB b k a = holdB a k b := by unfold holdB; rw [Bool.eq_iff_iff]; simp [eq_comm]
theorem dvd_pow32 (k : Nat) : 2 ^ (32 - k) ∣ 4294967296 := by
  rw [show (4294967296 : Nat) = 2 ^ 32 from rfl]
  exact Nat.pow_dvd_pow 2 (by omega)
theorem lo_top (a k : Nat) (ha : a < 4294967296) : loN a k + 2 ^ (32 - k) ≤ 4294967296 := by
  obtain ⟨c, hc⟩ := lo_dvd a k
  obtain ⟨d, hd⟩ := dvd_pow32 k
  have h1 := lo_le a k
  have hp := pw_pos k
  generalize 2 ^ (32 - k) = M at *
  rw [hc, hd]
  have h2 : M * c < M * d := by omega
  have h3 : c < d := Nat.lt_of_mul_lt_mul_left h2
  rw [show M * c + M = M * (c + 1) by rw [Nat.mul_add, Nat.mul_one]]
  exact Nat.mul_le_mul_left _ h3
theorem lo_lt (a k : Nat) (ha : a < 4294967296) : loN a k < 4294967296 := Nat.lt_of_le_of_lt (lo_le a k) ha
theorem hi_lt (a k : Nat) (ha : a < 4294967296) : hiN a k < 4294967296 := by
  have h1 := lo_top a k ha
  have h2 := pw_pos k
  unfold hiN
  omega
theorem msk_le (k : Nat) : mskN k ≤ 4294967295 := by
  have := pw_pos k
  unfold mskN
  omega
theorem shl_msk (t k : Nat) (h : t = 32 - k) : 4294967295 * 2 ^ t % 4294967296 = mskN k := by
  subst h
  have h1 := pw_pos k
  have h2 := pw_le k
  unfold mskN
  generalize 2 ^ (32 - k) = M at *
  have e : 4294967295 * M = (4294967296 - M) + 4294967296 * (M - 1) := by omega
  rw [e, Nat.add_mul_mod_self_left]
  exact Nat.mod_eq_of_lt (by omega)
theorem msk_shift (k : Nat) (hk : k ≤ 32) : mskN k = (2 ^ k - 1) <<< (32 - k) := by
  have e : 2 ^ k * 2 ^ (32 - k) = 4294967296 := by rw [← Nat.pow_add, show k + (32 - k) = 32 by omega]
  rw [Nat.shiftLeft_eq, Nat.sub_mul, e, mskN, Nat.one_mul]
theorem lo_shift (a k : Nat) : loN a k = (a >>> (32 - k)) <<< (32 - k) := by
  rw [Nat.shiftLeft_eq, Nat.shiftRight_eq_div_pow]
  rfl
theorem and_msk (a k : Nat) (ha : a < 4294967296) (hk : k ≤ 32) : a &&& mskN k = loN a k := by
  rw [msk_shift k hk, lo_shift]
  apply Nat.eq_of_testBit_eq
  intro i
  rw [Nat.testBit_and, Nat.testBit_shiftLeft, Nat.testBit_shiftLeft, Nat.testBit_shiftRight, Nat.testBit_two_pow_sub_one]
  by_cases h1 : 32 - k ≤ i
  · rw [show 32 - k + (i - (32 - k)) = i by omega]
    by_cases h2 : i < 32
    · simp [h1, show i - (32 - k) < k by omega]
    · have : a.testBit i = false := Nat.testBit_lt_two_pow (Nat.lt_of_lt_of_le ha (Nat.le_trans (by decide : 4294967296 ≤ 2 ^ 32) (Nat.pow_le_pow_right (by omega) (by omega))))
      simp [this]
  · simp [h1]
theorem or_msk (a k : Nat) (ha : a < 4294967296) : loN a k ||| (4294967295 - mskN k) = hiN a k := by
  have h1 := pw_pos k
  have h2 := pw_le k
  have e : 4294967295 - mskN k = 2 ^ (32 - k) - 1 := by unfold mskN; omega
  rw [e, hiN]
  have h3 : loN a k = 2 ^ (32 - k) * (a / 2 ^ (32 - k)) := Nat.mul_comm _ _
  rw [h3]
  exact (Nat.two_pow_add_eq_or_of_lt (by omega) _).symm
theorem xor_msk (k : Nat) (hk : k ≤ 32) : 4294967295 ^^^ mskN k = 4294967295 - mskN k := by
  have h1 := pw_pos k
  have h2 := pw_le k
  have e : 4294967295 - mskN k = 2 ^ (32 - k) - 1 := by unfold mskN; omega
  rw [e, msk_shift k hk, show (4294967295 : Nat) = 2 ^ 32 - 1 from rfl]
  apply Nat.eq_of_testBit_eq
  intro i
  rw [Nat.testBit_xor, Nat.testBit_shiftLeft, Nat.testBit_two_pow_sub_one, Nat.testBit_two_pow_sub_one, Nat.testBit_two_pow_sub_one]
  by_cases g : i < 32
  · by_cases g2 : 32 - k ≤ i
    · simp [g, g2, show i - (32 - k) < k by omega, show ¬ i < 32 - k by omega]
    · simp [g, g2, show i < 32 - k by omega]
  · simp [g, show ¬ i - (32 - k) < k by omega, show ¬ i < 32 - k by omega]
theorem msk_testBit (k i : Nat) (hk : k ≤ 32) (hi : i < 32) : (mskN k).testBit (31 - i) = decide (i < k) := by
  rw [msk_shift k hk, Nat.testBit_shiftLeft, Nat.testBit_two_pow_sub_one]
  by_cases h : i < k
  · simp [h, show 32 - k ≤ 31 - i by omega, show 31 - i - (32 - k) < k by omega]
  · simp [h, show ¬ 32 - k ≤ 31 - i by omega]
theorem lo_zero (a : Nat) (ha : a < 4294967296) : loN a 0 = 0 := by unfold loN; rw [Nat.sub_zero, Nat.div_eq_of_lt (by exact ha), Nat.zero_mul]
theorem lo_full (a : Nat) : loN a 32 = a := by simp [loN]
theorem hi_zero (a : Nat) (ha : a < 4294967296) : hiN a 0 = 4294967295 := by unfold hiN; rw [lo_zero a ha]
theorem hi_full (a : Nat) : hiN a 32 = a := by unfold hiN; rw [lo_full]; rfl
theorem may_in (a k : Nat) (hk : k ≤ 32) : mayI a (k : Int) = if loN a k = a then 0 else 8 := by
  unfold mayI
  rw [if_neg (by omega), cl_nat k hk]
theorem may_lo (a k : Nat) (hk : k ≤ 32) : mayI (loN a k) (k : Int) = 0 := by rw [may_in _ _ hk, if_pos (lo_lo a k)]

/-! nesting -/
theorem nest_one (p q M K : Nat) (hp : M ∣ p) (hq : M ∣ q) (hK : M ∣ K) : p + M ≤ q ∨ q + K ≤ p ∨ (q ≤ p ∧ p + M ≤ q + K) := by
  obtain ⟨u, rfl⟩ := hp
  obtain ⟨v, rfl⟩ := hq
  obtain ⟨c, rfl⟩ := hK
  rw [show M * u + M = M * (u + 1) by rw [Nat.mul_add, Nat.mul_one], ← Nat.mul_add]
  rcases Nat.lt_or_ge u v with h | h
  · exact .inl (Nat.mul_le_mul_left _ h)
  · rcases Nat.lt_or_ge u (v + c) with g | g
    · exact .inr (.inr ⟨Nat.mul_le_mul_left _ h, Nat.mul_le_mul_left _ g⟩)
    · exact .inr (.inl (Nat.mul_le_mul_left _ g))
/-- of two prefixes the longer one is in the shorter one, or apart -/
theorem nest (p q m k : Nat) (h : k ≤ m) (hp : loN p m = p) (hq : loN q k = q) : p + 2 ^ (32 - m) ≤ q ∨ q + 2 ^ (32 - k) ≤ p ∨ (q ≤ p ∧ p + 2 ^ (32 - m) ≤ q + 2 ^ (32 - k)) := by
  have hd : 2 ^ (32 - m) ∣ 2 ^ (32 - k) := Nat.pow_dvd_pow 2 (by omega)
  refine nest_one p q _ _ ?_ ?_ hd
  · rw [← hp]; exact lo_dvd p m
  · rw [← hq]; exact Nat.dvd_trans hd (lo_dvd q k)

/-! order -/
theorem cmp_lt {a b : Nat} (m n : Int) (h : a < b) : cmpI a m b n = -1 := by unfold cmpI; rw [if_pos (.inl h)]
theorem cmp_gt {a b : Nat} (m n : Int) (h : b < a) : cmpI a m b n = 1 := by unfold cmpI; rw [if_neg (by omega), if_neg (by omega)]
theorem cmp_eq_lt (a : Nat) {m n : Int} (h : m < n) : cmpI a m a n = -1 := by unfold cmpI; rw [if_pos (.inr ⟨rfl, h⟩)]
theorem cmp_eq_gt (a : Nat) {m n : Int} (h : n < m) : cmpI a m a n = 1 := by unfold cmpI; rw [if_neg (by omega), if_neg (by omega)]
theorem cmp_same (a : Nat) (m : Int) : cmpI a m a m = 0 := by unfold cmpI; rw [if_neg (by omega), if_pos ⟨rfl, rfl⟩]

/-! texts -/
theorem split_sep (c0 : UInt8) : ∀ (x y r s : List UInt8), c0 ∉ x → c0 ∉ y → x ++ c0 :: r = y ++ c0 :: s → x = y ∧ r = s
  | [], [], r, s, _, _, h => ⟨rfl, by simpa using h⟩
  | [], c :: y, r, s, _, hy, h => by
    simp only [List.nil_append, List.cons_append, List.cons.injEq] at h
    exact absurd (by rw [← h.1]; simp) hy
  | c :: x, [], r, s, hx, _, h => by
    simp only [List.nil_append, List.cons_append, List.cons.injEq] at h
    exact absurd (by rw [h.1]; simp) hx
  | c :: x, d :: y, r, s, hx, hy, h => by
    simp only [List.cons_append, List.cons.injEq] at h
    obtain ⟨h1, h2⟩ := split_sep c0 x y r s (fun h => hx (List.mem_cons_of_mem _ h)) (fun h => hy (List.mem_cons_of_mem _ h)) h.2
    exact ⟨by rw [h.1, h1], h2⟩
theorem dec_noslash (n : Nat) : (47 : UInt8) ∉ dec n := fun h => by
  have := dec_digs n _ h
  cases this
theorem txt_noslash (a : Nat) : (47 : UInt8) ∉ txt a := fun h => by
  have h0 := dec_noslash (byt a 0)
  have h1 := dec_noslash (byt a 1)
  have h2 := dec_noslash (byt a 2)
  have h3 := dec_noslash (byt a 3)
  simp only [txt, txt4, List.mem_append, List.mem_cons] at h
  rcases h with h | h | h | h | h | h | h
  · exact h0 h
  · cases h
  · exact h1 h
  · cases h
  · exact h2 h
  · cases h
  · exact h3 h
/-- ahead of the first slash; behind it -/
def headS (l : List UInt8) : List UInt8 := l.takeWhile fun c => decide (c ≠ 47)
def tailS (l : List UInt8) : List UInt8 := (l.dropWhile fun c => decide (c ≠ 47)).drop 1
theorem cut_at (x r : List UInt8) (h : (47 : UInt8) ∉ x) : headS (x ++ 47 :: r) = x ∧ tailS (x ++ 47 :: r) = r := by
  induction x with
  | nil => simp [headS, tailS]
  | cons c x ih =>
    obtain ⟨h1, h2⟩ := ih (fun g => h (List.mem_cons_of_mem _ g))
    have hc : c ≠ 47 := fun g => h (by rw [g]; simp)
    unfold headS tailS at *
    constructor
    · rw [List.cons_append, List.takeWhile_cons_of_pos (by simpa using hc), h1]
    · rw [List.cons_append, List.dropWhile_cons_of_pos (by simpa using hc), h2]
theorem cut_no (x : List UInt8) (h : (47 : UInt8) ∉ x) : headS x = x ∧ tailS x = [] := by
  induction x with
  | nil => simp [headS, tailS]
  | cons c x ih =>
    obtain ⟨h1, h2⟩ := ih (fun g => h (List.mem_cons_of_mem _ g))
    have hc : c ≠ 47 := fun g => h (by rw [g]; simp)
    unfold headS tailS at *
    constructor
    · rw [List.takeWhile_cons_of_pos (by simpa using hc), h1]
    · rw [List.dropWhile_cons_of_pos (by simpa using hc), h2]
theorem slash_cases (l : List UInt8) : (47 : UInt8) ∉ l ∨ ∃ x r, (47 : UInt8) ∉ x ∧ l = x ++ 47 :: r := by
  induction l with
  | nil => exact .inl (by simp)
  | cons c l ih =>
    by_cases hc : c = 47
    · subst hc
      exact .inr ⟨[], l, by simp, rfl⟩
    · rcases ih with h | ⟨x, r, h, rfl⟩
      · exact .inl (by intro g; rcases List.mem_cons.1 g with g | g; exact hc g.symm; exact h g)
      · exact .inr ⟨c :: x, r, by intro g; rcases List.mem_cons.1 g with g | g; exact hc g.symm; exact h g, rfl⟩
/-- the lowest length whose text this is; 33, if there is none up to 32 -/
def lenOf (l : List UInt8) : Nat := ((List.range 33).find? fun n => decide (dec n = l)).getD 33
theorem len_yes (n : Nat) (h : n ≤ 32) : lenOf (dec n) = n := by
  unfold lenOf
  cases hf : (List.range 33).find? fun m => decide (dec m = dec n) with
  | none =>
    rw [List.find?_eq_none] at hf
    exact absurd (by simp) (hf n (List.mem_range.2 (by omega)))
  | some m =>
    have := List.find?_some hf
    exact dec_inj (by simpa using this)
theorem len_no (l : List UInt8) (h : ∀ n, n ≤ 32 → dec n ≠ l) : lenOf l = 33 := by
  unfold lenOf
  cases hf : (List.range 33).find? fun m => decide (dec m = l) with
  | none => rfl
  | some m =>
    have h1 := List.find?_some hf
    have h2 := List.mem_of_find?_eq_some hf
    exact absurd (by simpa using h1) (h m (by have := List.mem_range.1 h2; omega))
theorem len_cases (l : List UInt8) : (lenOf l = 33 ∧ ∀ n, n ≤ 32 → dec n ≠ l) ∨ (lenOf l ≤ 32 ∧ dec (lenOf l) = l) := by
  by_cases h : ∃ n, n ≤ 32 ∧ dec n = l
  · obtain ⟨n, hn, rfl⟩ := h
    rw [len_yes n hn]
    exact .inr ⟨hn, rfl⟩
  · have h2 : ∀ n, n ≤ 32 → dec n ≠ l := fun n hn e => h ⟨n, hn, e⟩
    exact .inl ⟨len_no l h2, h2⟩
theorem len_le (l : List UInt8) : lenOf l ≤ 33 := by
  rcases len_cases l with ⟨h, _⟩ | ⟨h, _⟩ <;> omega
/-- what a text is parsed to -/
def pfx (l : List UInt8) : Nat × Nat × Int :=
  if pe (headS l) = 0 ∧ lenOf (tailS l) ≤ 32 then if loN (pa (headS l)) (lenOf (tailS l)) = pa (headS l) then (pa (headS l), lenOf (tailS l), 0) else (0, 0, 8) else (0, 0, 7)
theorem pfx_yes (a n : Nat) (ha : a < 4294967296) (hn : n ≤ 32) : pfx (txt a ++ 47 :: dec n) = if loN a n = a then (a, n, 0) else (0, 0, 8) := by
  obtain ⟨h1, h2⟩ := cut_at (txt a) (dec n) (txt_noslash a)
  unfold pfx
  rw [h1, h2, pe_txt a ha, pa_txt a ha, len_yes n hn, if_pos ⟨rfl, hn⟩]
theorem pfx_cases (l : List UInt8) : pfx l = (0, 0, 7) ∨ ∃ a n, a < 4294967296 ∧ n ≤ 32 ∧ l = txt a ++ 47 :: dec n := by
  by_cases h : pe (headS l) = 0 ∧ lenOf (tailS l) ≤ 32
  · obtain ⟨h1, h2⟩ := h
    obtain ⟨a, ha, e1⟩ := pe_of h1
    rcases len_cases (tailS l) with ⟨h3, _⟩ | ⟨_, h3⟩
    · omega
    · right
      refine ⟨a, lenOf (tailS l), ha, h2, ?_⟩
      rcases slash_cases l with g | ⟨x, r, g, rfl⟩
      · rw [(cut_no l g).2] at h3
        have := dec_pos (lenOf [])
        rw [h3] at this
        simp at this
      · obtain ⟨g1, g2⟩ := cut_at x r g
        rw [g1] at e1
        rw [g2] at h3 ⊢
        rw [h3, e1]
  · left
    unfold pfx
    rw [if_neg h]
theorem pfx_no (l : List UInt8) (h : ∀ a n, a < 4294967296 → n ≤ 32 → l ≠ txt a ++ 47 :: dec n) : pfx l = (0, 0, 7) := by
  rcases pfx_cases l with h1 | ⟨a, n, ha, hn, e⟩
  · exact h1
  · exact absurd e (h a n ha hn)
theorem pfx_lt (l : List UInt8) : (pfx l).1 < 4294967296 ∧ (pfx l).2.1 ≤ 32 := by
  rcases pfx_cases l with h1 | ⟨a, n, ha, hn, rfl⟩
  · rw [h1]; exact ⟨by decide, by decide⟩
  · rw [pfx_yes a n ha hn]
    split
    · exact ⟨ha, hn⟩
    · exact ⟨by decide, by decide⟩
/-- what is told: a prefix that may be, with this text; or 7, or 8 -/
theorem pfx_told (l : List UInt8) : ((pfx l).2.2 = 0 ∧ l = txt (pfx l).1 ++ 47 :: dec (pfx l).2.1 ∧ loN (pfx l).1 (pfx l).2.1 = (pfx l).1) ∨ ((pfx l).2.2 = 7 ∨ (pfx l).2.2 = 8) := by
  rcases pfx_cases l with h1 | ⟨a, n, ha, hn, rfl⟩
  · rw [h1]; exact .inr (.inl rfl)
  · rw [pfx_yes a n ha hn]
    split
    · rename_i h
      exact .inl ⟨rfl, rfl, h⟩
    · exact .inr (.inr rfl)
/-- a text with one slash alone whose last part is no length, or whose first part is no address -/
theorem pfx_slash (x r : List UInt8) (hx : (47 : UInt8) ∉ x) (h : ∀ n, n ≤ 32 → dec n ≠ r) : pfx (x ++ 47 :: r) = (0, 0, 7) := by
  obtain ⟨h1, h2⟩ := cut_at x r hx
  unfold pfx
  rw [h1, h2, if_neg]
  rintro ⟨_, h3⟩
  rw [len_no r h] at h3
  omega
theorem pfx_high (a n : Nat) (hn : 33 ≤ n) : pfx (txt a ++ 47 :: dec n) = (0, 0, 7) := pfx_slash _ _ (txt_noslash a) fun m hm e => by
  have := dec_inj e
  omega
theorem pfx_behind (a n : Nat) (c : UInt8) (h : isDig c = false) : pfx (txt a ++ 47 :: dec n ++ [c]) = (0, 0, 7) := by
  rw [List.append_assoc, List.cons_append]
  refine pfx_slash _ _ (txt_noslash a) fun m hm e => ?_
  have := dec_digs m c (by rw [e]; simp)
  rw [h] at this
  cases this
end Go.Proofs.Ytpfpkghihpcbkaa
