/- Plain words on bytes and numbers: 'be': so many bytes of a number, the highest one first; 'val': the number that bytes are. No program. -/
namespace Go.Proofs.Ytpfpkghihpcbkaa
set_option linter.unusedVariables false
set_option linter.unusedSimpArgs false

theorem snoc_rec {α : Type} {P : List α → Prop} (h0 : P []) (h1 : ∀ l b, P l → P (l ++ [b])) (l : List α) : P l := by
  have h : ∀ r : List α, P r.reverse := by
    intro r
    induction r with
    | nil => exact h0
    | cons a r ih => rw [List.reverse_cons]; exact h1 _ _ ih
  have := h l.reverse
  rwa [List.reverse_reverse] at this

/-- the lowest s bytes of n, the highest one first -/
def be : Nat → Nat → List UInt8
  | 0, _ => []
  | s + 1, n => be s (n / 256) ++ [UInt8.ofNat n]
theorem be_length (s : Nat) : ∀ n, (be s n).length = s := by
  induction s with
  | zero => intro n; rfl
  | succ s ih => intro n; simp [be, ih]
theorem be_head (k : Nat) : ∀ n, be (k + 1) n = UInt8.ofNat (n / 256 ^ k) :: be k n := by
  induction k with
  | zero => intro n; simp [be]
  | succ k ih =>
    intro n
    rw [be, ih (n / 256), be, List.cons_append, Nat.div_div_eq_div_mul, Nat.pow_succ, Nat.mul_comm]
/-- the number that bytes are -/
def val (l : List UInt8) : Nat := l.foldl (fun a b => a * 256 + b.toNat) 0
theorem val_nil : val [] = 0 := rfl
theorem val_snoc (l : List UInt8) (b : UInt8) : val (l ++ [b]) = val l * 256 + b.toNat := by simp [val]
theorem val_lt (l : List UInt8) : val l < 256 ^ l.length := by
  induction l using snoc_rec with
  | h0 => simp [val]
  | h1 l b ih =>
    rw [val_snoc, List.length_append]
    have := b.toNat_lt
    simp only [List.length_singleton, Nat.pow_succ]
    omega
theorem val_append (a b : List UInt8) : val (a ++ b) = val a * 256 ^ b.length + val b := by
  induction b using snoc_rec with
  | h0 => simp [val]
  | h1 l x ih =>
    rw [← List.append_assoc, val_snoc, ih, val_snoc, List.length_append, List.length_singleton, Nat.pow_succ, Nat.add_mul, Nat.mul_assoc, Nat.add_assoc]
theorem val_cons (x : UInt8) (b : List UInt8) : val (x :: b) = x.toNat * 256 ^ b.length + val b := by
  have := val_append [x] b
  simpa [val] using this
theorem toNat_ofNat_mod (n : Nat) : (UInt8.ofNat n).toNat = n % 256 := by simp
theorem val_be (s : Nat) : ∀ n, val (be s n) = n % 256 ^ s := by
  induction s with
  | zero => intro n; simp [be, val, Nat.mod_one]
  | succ s ih =>
    intro n
    rw [be, val_snoc, ih, toNat_ofNat_mod, Nat.pow_succ, Nat.mul_comm (256 ^ s) 256, Nat.mod_mul]
    omega
theorem val_be_lt (s n : Nat) (h : n < 256 ^ s) : val (be s n) = n := by rw [val_be, Nat.mod_eq_of_lt h]
theorem be_val (l : List UInt8) : be l.length (val l) = l := by
  induction l using snoc_rec with
  | h0 => rfl
  | h1 l b ih =>
    have hb := b.toNat_lt
    rw [List.length_append, List.length_singleton, be, val_snoc]
    have h1 : (val l * 256 + b.toNat) / 256 = val l := by omega
    rw [h1, ih]
    congr 2
    apply UInt8.toNat.inj
    rw [toNat_ofNat_mod]
    omega
theorem be_inj {s a b : Nat} (ha : a < 256 ^ s) (hb : b < 256 ^ s) (h : be s a = be s b) : a = b := by
  have := congrArg val h
  rwa [val_be_lt s a ha, val_be_lt s b hb] at this
theorem take_snoc_get {α : Type} (l : List α) (k : Nat) (h : k < l.length) : l.take (k + 1) = l.take k ++ [l[k]] := by
  rw [List.take_succ_eq_append_getElem h]
theorem val_take_succ (l : List UInt8) (k : Nat) (h : k < l.length) : val (l.take (k + 1)) = val (l.take k) * 256 + l[k].toNat := by
  rw [take_snoc_get l k h, val_snoc]
theorem val_take_lt (l : List UInt8) (k : Nat) : val (l.take k) < 256 ^ k := by
  have h1 := val_lt (l.take k)
  have h2 : (l.take k).length ≤ k := List.length_take_le _ _
  exact Nat.lt_of_lt_of_le h1 (Nat.pow_le_pow_right (by omega) h2)
/-- of as many bytes the first one that is unlike decides, as in numbers -/
theorem val_less : ∀ (a b : List UInt8), a.length = b.length → (val a < val b ↔ a < b)
  | [], [], _ => by simp [val]
  | x :: a, y :: b, h => by
    have hl : a.length = b.length := by simpa using h
    have ih := val_less a b hl
    have h1 := val_lt a
    have h2 := val_lt b
    rw [val_cons, val_cons, hl]
    rw [hl] at h1
    rw [List.cons_lt_cons_iff]
    have hp : 0 < 256 ^ b.length := Nat.pow_pos (by omega)
    generalize 256 ^ b.length = p at *
    rcases Nat.lt_trichotomy x.toNat y.toNat with hxy | hxy | hxy
    · have h3 : (x.toNat + 1) * p ≤ y.toNat * p := Nat.mul_le_mul_right _ hxy
      have h4 : (x.toNat + 1) * p = x.toNat * p + p := by rw [Nat.add_mul, Nat.one_mul]
      have h5 : x < y := UInt8.lt_iff_toNat_lt.2 hxy
      simp only [h5, true_or, iff_true]
      omega
    · have h5 : x = y := UInt8.toNat.inj hxy
      subst h5
      simp only [true_and]
      rw [← ih]
      have h6 : ¬ x < x := by simp
      simp only [h6, false_or]
      omega
    · have h3 : (y.toNat + 1) * p ≤ x.toNat * p := Nat.mul_le_mul_right _ hxy
      have h4 : (y.toNat + 1) * p = y.toNat * p + p := by rw [Nat.add_mul, Nat.one_mul]
      have h5 : ¬ x < y := by rw [UInt8.lt_iff_toNat_lt]; omega
      have h6 : ¬ x = y := by rintro rfl; omega
      simp only [h5, h6, false_and, or_self, iff_false]
      omega
theorem be_less {s a b : Nat} (ha : a < 256 ^ s) (hb : b < 256 ^ s) : be s a < be s b ↔ a < b := by
  rw [← val_less _ _ (by rw [be_length, be_length]), val_be_lt s a ha, val_be_lt s b hb]
theorem be_wide (s x d : Nat) (h : x < 256 ^ s) : be (d + s) x = List.replicate d 0 ++ be s x := by
  induction d with
  | zero => simp
  | succ d ih =>
    rw [show d + 1 + s = (d + s) + 1 from by omega, be_head, ih, List.replicate_succ, List.cons_append]
    have h1 : x / 256 ^ (d + s) = 0 := Nat.div_eq_of_lt (Nat.lt_of_lt_of_le h (Nat.pow_le_pow_right (by omega) (by omega)))
    rw [h1]
    rfl
theorem val_split (m s k : Nat) (hk : k ≤ s) (hm : m < 256 ^ s) : val ((be s m).take k) * 256 ^ (s - k) + val ((be s m).drop k) = m := by
  have h1 := val_append ((be s m).take k) ((be s m).drop k)
  rw [List.take_append_drop, List.length_drop, be_length, val_be_lt s m hm] at h1
  exact h1.symm
theorem or_byte (a b : Nat) (hb : b < 256) : (a * 256) ||| b = a * 256 + b := by
  have := Nat.shiftLeft_add_eq_or_of_lt (i := 8) (b := b) (by omega) a
  rw [Nat.shiftLeft_eq] at this
  exact this.symm
end Go.Proofs.Ytpfpkghihpcbkaa
