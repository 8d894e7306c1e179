/- Plain words on bytes and numbers: 'be': so many bytes of a number, the highest one first; 'val': the number that bytes are. No program. | Plain words on groups of seven bits: 'grp': a number's bytes; 'takeG': the number that bytes begin with. No program. | Plain mathematics of the sum of bytes: half a step, four of them, eight of them, a row of bytes; all of them go through 'exclusive or'. No function of the program is named here. | Plain mathematics of layer 4: bytes with their sum behind them, what a frame holds, sections; bytes as one number, the lowest bit first, and why bits that are turned next to each other turn the sum. No function of the program is named here. | Plain mathematics of layer 5: texts of addresses, what they are parsed to, bits, first bits alike. | Plain mathematics of layer 6: first bits of addresses, what prefixes hold, their order, their texts. | Plain words of layer 7: which rules may be, a rule's bytes, the rule of bytes. No program. | Plain words of layer 8: tables of rules: which may be, which rule is found, tables made such as may be. No program. | Plain mathematics of layer 9: networks as lists of tables; steps, walks, loops. No program. | Plain mathematics of layer 10: networks as bytes. No program. | Plain words on the rows of bytes of NetfileOdd: which are refused, and how. No program. -/
import Derived.Lib.Hide
import Derived.Lib.ItoaNum
import Derived.Lib.BitFns
section
namespace Go.Proofs.YtohggpaffmcfoaaDoor
set_option linter.unusedVariables false
set_option maxRecDepth 100000
set_option linter.unusedSimpArgs false

theorem snoc_rec {α : Type} {P : List α → Prop} (h0 : P []) (h1 : ∀ l b, P l → P (l ++ [b])) (l : List α) : P l := by
  have h : ∀ r : List α, P r.reverse := by
    intro r
    induction r with
    | nil => exact h0
    | cons a r ih => rw [List.reverse_cons]; exact h1 _ _ ih
  have := h l.reverse
  rwa [List.reverse_reverse] at this

/-- the lowest s bytes of n, the highest one first -/
def be : Nat → Nat → List UInt8
  | 0, _ => []
  | s + 1, n => be s (n / 256) ++ [UInt8.ofNat n]
theorem be_length (s : Nat) : ∀ n, (be s n).length = s := by
  induction s with
  | zero => intro n; rfl
  | succ s ih => intro n; simp [be, ih]
theorem be_head (k : Nat) : ∀ n, be (k + 1) n = UInt8.ofNat (n / 256 ^ k) :: be k n := by
  induction k with
  | zero => intro n; simp [be]
  | succ k ih =>
    intro n
    rw [be, ih (n / 256), be, List.cons_append, Nat.div_div_eq_div_mul, Nat.pow_succ, Nat.mul_comm]
/-- the number that bytes are -/
def val (l : List UInt8) : Nat := l.foldl (fun a b => a * 256 + b.toNat) 0
theorem val_nil : val [] = 0 := rfl
theorem val_snoc (l : List UInt8) (b : UInt8) : val (l ++ [b]) = val l * 256 + b.toNat := by simp [val]
theorem val_lt (l : List UInt8) : val l < 256 ^ l.length := by
  induction l using snoc_rec with
  | h0 => simp [val]
  | h1 l b ih =>
    rw [val_snoc, List.length_append]
    have := b.toNat_lt
    simp only [List.length_singleton, Nat.pow_succ]
    omega
theorem val_append (a b : List UInt8) : val (a ++ b) = val a * 256 ^ b.length + val b := by
  induction b using snoc_rec with
  | h0 => simp [val]
  | h1 l x ih =>
    rw [← List.append_assoc, val_snoc, ih, val_snoc, List.length_append, List.length_singleton, Nat.pow_succ, Nat.add_mul, Nat.mul_assoc, Nat.add_assoc]
theorem val_cons (x : UInt8) (b : List UInt8) : val (x :: b) = x.toNat * 256 ^ b.length + val b := by
  have := val_append [x] b
  simpa [val] using this
theorem toNat_ofNat_mod (n : Nat) : (UInt8.ofNat n).toNat = n % 256 := by simp
theorem val_be (s : Nat) : ∀ n, val (be s n) = n % 256 ^ s := by
  induction s with
  | zero => intro n; simp [be, val, Nat.mod_one]
  | succ s ih =>
    intro n
    rw [be, val_snoc, ih, toNat_ofNat_mod, Nat.pow_succ, Nat.mul_comm (256 ^ s) 256, Nat.mod_mul]
    omega
theorem val_be_lt (s n : Nat) (h : n < 256 ^ s) : val (be s n) = n := by rw [val_be, Nat.mod_eq_of_lt h]
theorem be_val (l : List UInt8) : be l.length (val l) = l := by
  induction l using snoc_rec with
  | h0 => rfl
  | h1 l b ih =>
    have hb := b.toNat_lt
    rw [List.length_append, List.length_singleton, be, val_snoc]
    have h1 : (val l * 256 + b.toNat) / 256 = val l := by omega
    rw [h1, ih]
    congr 2
    apply UInt8.toNat.inj
    rw [toNat_ofNat_mod]
    omega
theorem be_inj {s a b : Nat} (ha : a < 256 ^ s) (hb : b < 256 ^ s) (h : be s a = be s b) : a = b := by
  have := congrArg val h
  rwa [val_be_lt s a ha, val_be_lt s b hb] at this
theorem take_snoc_get {α : Type} (l : List α) (k : Nat) (h : k < l.length) : l.take (k + 1) = l.take k ++ [l[k]] := by
  rw [List.take_succ_eq_append_getElem h]
theorem val_take_succ (l : List UInt8) (k : Nat) (h : k < l.length) : val (l.take (k + 1)) = val (l.take k) * 256 + l[k].toNat := by
  rw [take_snoc_get l k h, val_snoc]
theorem val_take_lt (l : List UInt8) (k : Nat) : val (l.take k) < 256 ^ k := by
  have h1 := val_lt (l.take k)
  have h2 : (l.take k).length ≤ k := List.length_take_le _ _
  exact Nat.lt_of_lt_of_le h1 (Nat.pow_le_pow_right (by omega) h2)
/-- of as many bytes the first one that is unlike decides, as in numbers -/
theorem val_less : ∀ (a b : List UInt8), a.length = b.length → (val a < val b ↔ a < b)
  | [], [], _ => by simp [val]
  | x :: a, y :: b, h => by
    have hl : a.length = b.length := by simpa using h
    have ih := val_less a b hl
    have h1 := val_lt a
    have h2 := val_lt b
    rw [val_cons, val_cons, hl]
    rw [hl] at h1
    rw [List.cons_lt_cons_iff]
    have hp : 0 < 256 ^ b.length := Nat.pow_pos (by omega)
    generalize 256 ^ b.length = p at *
    rcases Nat.lt_trichotomy x.toNat y.toNat with hxy | hxy | hxy
    · have h3 : (x.toNat + 1) * p ≤ y.toNat * p := Nat.mul_le_mul_right _ hxy
      have h4 : (x.toNat + 1) * p = x.toNat * p + p := by rw [Nat.add_mul, Nat.one_mul]
      have h5 : x < y := UInt8.lt_iff_toNat_lt.2 hxy
      simp only [h5, true_or, iff_true]
      omega
    · have h5 : x = y := UInt8.toNat.inj hxy
      subst h5
      simp only [true_and]
      rw [← ih]
      have h6 : ¬ x < x := by simp
      simp only [h6, false_or]
      omega
    · have h3 : (y.toNat + 1) * p ≤ x.toNat * p := Nat.mul_le_mul_right _ hxy
      have h4 : (y.toNat + 1) * p = y.toNat * p + p := by rw [Nat.add_mul, Nat.one_mul]
      have h5 : ¬ x < y := by rw [UInt8.lt_iff_toNat_lt]; omega
      have h6 : ¬ x = y := by rintro rfl; omega
      simp only [h5, h6, false_and, or_self, iff_false]
      omega
theorem be_less {s a b : Nat} (ha : a < 256 ^ s) (hb : b < 256 ^ s) : be s a < be s b ↔ a < b := by
  rw [← val_less _ _ (by rw [be_length, be_length]), val_be_lt s a ha, val_be_lt s b hb]
theorem be_wide (s x d : Nat) (h : x < 256 ^ s) : be (d + s) x = List.replicate d 0 ++ be s x := by
  induction d with
  | zero => simp
  | succ d ih =>
    rw [show d + 1 + s = (d + s) + 1 from by omega, be_head, ih, List.replicate_succ, List.cons_append]
    have h1 : x / 256 ^ (d + s) = 0 := Nat.div_eq_of_lt (Nat.lt_of_lt_of_le h (Nat.pow_le_pow_right (by omega) (by omega)))
    rw [h1]
    rfl
theorem val_split (m s k : Nat) (hk : k ≤ s) (hm : m < 256 ^ s) : val ((be s m).take k) * 256 ^ (s - k) + val ((be s m).drop k) = m := by
  have h1 := val_append ((be s m).take k) ((be s m).drop k)
  rw [List.take_append_drop, List.length_drop, be_length, val_be_lt s m hm] at h1
  exact h1.symm
theorem or_byte (a b : Nat) (hb : b < 256) : (a * 256) ||| b = a * 256 + b := by
  have := Nat.shiftLeft_add_eq_or_of_lt (i := 8) (b := b) (by omega) a
  rw [Nat.shiftLeft_eq] at this
  exact this.symm
end Go.Proofs.YtohggpaffmcfoaaDoor
end
section
namespace Go.Proofs.YtohggpaffmcfoaaDoor
set_option linter.unusedVariables false
set_option maxRecDepth 100000
set_option linter.unusedSimpArgs false

/-- the k lowest groups of n, the highest one first, each 128 more -/
def hi : Nat → Nat → List UInt8
  | 0, _ => []
  | k + 1, n => hi k (n / 128) ++ [UInt8.ofNat (128 + n % 128)]
theorem hi_length (k : Nat) : ∀ n, (hi k n).length = k := by
  induction k with
  | zero => intro n; rfl
  | succ k ih => intro n; simp [hi, ih]
theorem hi_head (k : Nat) : ∀ n, hi (k + 1) n = UInt8.ofNat (128 + n / 128 ^ k % 128) :: hi k n := by
  induction k with
  | zero => intro n; simp [hi]
  | succ k ih =>
    intro n
    rw [hi, ih (n / 128), hi, List.cons_append, Nat.div_div_eq_div_mul, Nat.pow_succ, Nat.mul_comm]
/-- how many bytes n has -/
def gsize (n : Nat) : Nat := if n < 128 then 1 else if n < 16384 then 2 else if n < 2097152 then 3 else 4
/-- the bytes of n -/
def grp (n : Nat) : List UInt8 := hi (gsize n - 1) (n / 128) ++ [UInt8.ofNat (n % 128)]
theorem gsize_pos (n : Nat) : 1 ≤ gsize n ∧ gsize n ≤ 4 := by unfold gsize; split <;> (try split) <;> (try split) <;> omega
theorem grp_length (n : Nat) : (grp n).length = gsize n := by
  have := gsize_pos n
  simp only [grp, List.length_append, hi_length, List.length_singleton]
  omega
theorem size_cases (n : Nat) : (n < 128 ∧ gsize n = 1) ∨ (128 ≤ n ∧ n < 16384 ∧ gsize n = 2) ∨ (16384 ≤ n ∧ n < 2097152 ∧ gsize n = 3) ∨ (2097152 ≤ n ∧ gsize n = 4) := by
  unfold gsize
  split
  · left; omega
  · split
    · right; left; omega
    · split
      · right; right; left; omega
      · right; right; right; omega
/-- The bytes, one by one. -/
theorem grp_cases (n : Nat) (h : n ≤ 268435455) :
    (n < 128 ∧ gsize n = 1 ∧ grp n = [UInt8.ofNat n]) ∨
    (128 ≤ n ∧ n < 16384 ∧ gsize n = 2 ∧ grp n = [UInt8.ofNat (128 + n / 128), UInt8.ofNat (n % 128)]) ∨
    (16384 ≤ n ∧ n < 2097152 ∧ gsize n = 3 ∧ grp n = [UInt8.ofNat (128 + n / 16384), UInt8.ofNat (128 + n / 128 % 128), UInt8.ofNat (n % 128)]) ∨
    (2097152 ≤ n ∧ gsize n = 4 ∧ grp n = [UInt8.ofNat (128 + n / 2097152), UInt8.ofNat (128 + n / 16384 % 128), UInt8.ofNat (128 + n / 128 % 128), UInt8.ofNat (n % 128)]) := by
  rcases size_cases n with ⟨h1, h2⟩ | ⟨h1, h3, h2⟩ | ⟨h1, h3, h2⟩ | ⟨h1, h2⟩
  · left
    refine ⟨h1, h2, ?_⟩
    rw [grp, h2, Nat.mod_eq_of_lt h1]
    rfl
  · right; left
    refine ⟨h1, h3, h2, ?_⟩
    simp only [grp, h2, hi, List.nil_append, List.cons_append]
    rw [Nat.mod_eq_of_lt (show n / 128 < 128 by omega)]
  · right; right; left
    refine ⟨h1, h3, h2, ?_⟩
    simp only [grp, h2, hi, List.nil_append, List.cons_append, Nat.div_div_eq_div_mul]
    rw [show 128 * 128 = 16384 from rfl, Nat.mod_eq_of_lt (show n / 16384 < 128 by omega)]
  · right; right; right
    refine ⟨h1, h2, ?_⟩
    simp only [grp, h2, hi, List.nil_append, List.cons_append, Nat.div_div_eq_div_mul]
    rw [show 128 * (128 * 128) = 2097152 from rfl, show 128 * 128 = 16384 from rfl, Nat.mod_eq_of_lt (show n / 2097152 < 128 by omega)]
/-- the bytes are the groups with the last one's highest bit away -/
theorem grp_snoc (n : Nat) : ∃ l, l.length = gsize n - 1 ∧ hi (gsize n) n = l ++ [UInt8.ofNat (128 + n % 128)] ∧ grp n = l ++ [UInt8.ofNat (n % 128)] := by
  have := gsize_pos n
  obtain ⟨k, hk⟩ : ∃ k, gsize n = k + 1 := ⟨gsize n - 1, by omega⟩
  refine ⟨hi k (n / 128), by rw [hi_length]; omega, by rw [hk, hi], by rw [grp, hk]; rfl⟩
theorem pow128 (k : Nat) (h : k ≤ 4) : (k = 0 ∧ 128 ^ k = 1) ∨ (k = 1 ∧ 128 ^ k = 128) ∨ (k = 2 ∧ 128 ^ k = 16384) ∨ (k = 3 ∧ 128 ^ k = 2097152) ∨ (k = 4 ∧ 128 ^ k = 268435456) := by
  have : k = 0 ∨ k = 1 ∨ k = 2 ∨ k = 3 ∨ k = 4 := by omega
  rcases this with rfl | rfl | rfl | rfl | rfl <;> simp
/-- where Size's count ends -/
theorem size_end (n k : Nat) (hn : n ≤ 268435455) (hk : k ≤ 3) (h1 : n / 128 ^ (k + 1) = 0) (h2 : k = 0 ∨ n / 128 ^ k ≠ 0) : gsize n = k + 1 := by
  have : k = 0 ∨ k = 1 ∨ k = 2 ∨ k = 3 := by omega
  unfold gsize
  rcases this with rfl | rfl | rfl | rfl <;> simp at h1 h2
  · rw [if_pos (by omega)]
  · rw [if_neg (by omega), if_pos (by omega)]
  · rw [if_neg (by omega), if_neg (by omega), if_pos (by omega)]
  · rw [if_neg (by omega), if_neg (by omega), if_neg (by omega)]
theorem size_goes (n k : Nat) (hn : n ≤ 268435455) (hk : k ≤ 3) (h1 : n / 128 ^ (k + 1) ≠ 0) : k + 1 ≤ 3 := by
  have : k = 0 ∨ k = 1 ∨ k = 2 ∨ k = 3 := by omega
  rcases this with rfl | rfl | rfl | rfl
  · omega
  · omega
  · omega
  · exfalso
    apply h1
    exact Nat.div_eq_of_lt (by show n < 268435456; omega)
def sizeS (n : Int) : Int := if 0 ≤ n ∧ n ≤ 268435455 then (gsize n.toNat : Int) else 0
def putG (n : Int) : List UInt8 × Int := if 0 ≤ n ∧ n ≤ 268435455 then (grp n.toNat, 0) else ([], 1)

/-- what is told of bytes, i of which are seen, that are n so far -/
def gtkR : Nat → Nat → List UInt8 → Int × Int × Int
  | _, _, [] => (0, 0, 2)
  | i, n, c :: l => if c.toNat < 128 then (((n * 128 + c.toNat : Nat) : Int), ((i + 1 : Nat) : Int), 0) else if (i = 0 ∧ c.toNat = 128) ∨ i = 3 then (0, 0, 3) else gtkR (i + 1) (n * 128 + (c.toNat - 128)) l
def takeG (l : List UInt8) : Int × Int × Int := gtkR 0 0 l

theorem toNat_ofNat_lt {n : Nat} (h : n < 256) : (UInt8.ofNat n).toNat = n := by rw [toNat_ofNat_mod]; omega
theorem gtkR_last (i n : Nat) (c : UInt8) (l : List UInt8) (h : c.toNat < 128) : gtkR i n (c :: l) = (((n * 128 + c.toNat : Nat) : Int), ((i + 1 : Nat) : Int), 0) := by rw [gtkR, if_pos h]
theorem gtkR_more (i n : Nat) (c : UInt8) (l : List UInt8) (h : 128 ≤ c.toNat) (h0 : i = 0 → c.toNat ≠ 128) (h3 : i ≠ 3) : gtkR i n (c :: l) = gtkR (i + 1) (n * 128 + (c.toNat - 128)) l := by
  rw [gtkR, if_neg (by omega), if_neg (by omega)]
theorem gtkR_form (i n : Nat) (c : UInt8) (l : List UInt8) (h : 128 ≤ c.toNat) (h0 : (i = 0 ∧ c.toNat = 128) ∨ i = 3) : gtkR i n (c :: l) = (0, 0, 3) := by
  rw [gtkR, if_neg (by omega), if_pos h0]
/-- What was put is taken, whatever stands behind. -/
theorem take_grp (n : Nat) (hn : n ≤ 268435455) (l : List UInt8) : takeG (grp n ++ l) = ((n : Int), (gsize n : Int), 0) := by
  unfold takeG
  rcases grp_cases n hn with ⟨h1, h2, h3⟩ | ⟨h1, h4, h2, h3⟩ | ⟨h1, h4, h2, h3⟩ | ⟨h1, h2, h3⟩
  · rw [h2, h3, List.cons_append, gtkR_last _ _ _ _ (by rw [toNat_ofNat_lt (by omega)]; exact h1), toNat_ofNat_lt (by omega)]
    simp
  · rw [h2, h3, List.cons_append, List.cons_append]
    rw [gtkR_more _ _ _ _ (by rw [toNat_ofNat_lt (by omega)]; omega) (by intro _; rw [toNat_ofNat_lt (by omega)]; omega) (by omega), toNat_ofNat_lt (by omega)]
    rw [gtkR_last _ _ _ _ (by rw [toNat_ofNat_lt (by omega)]; omega), toNat_ofNat_lt (by omega)]
    congr 2
    omega
  · rw [h2, h3, List.cons_append, List.cons_append, List.cons_append]
    rw [gtkR_more _ _ _ _ (by rw [toNat_ofNat_lt (by omega)]; omega) (by intro _; rw [toNat_ofNat_lt (by omega)]; omega) (by omega), toNat_ofNat_lt (by omega)]
    rw [gtkR_more _ _ _ _ (by rw [toNat_ofNat_lt (by omega)]; omega) (by omega) (by omega), toNat_ofNat_lt (by omega)]
    rw [gtkR_last _ _ _ _ (by rw [toNat_ofNat_lt (by omega)]; omega), toNat_ofNat_lt (by omega)]
    congr 2
    omega
  · rw [h2, h3, List.cons_append, List.cons_append, List.cons_append, List.cons_append]
    rw [gtkR_more _ _ _ _ (by rw [toNat_ofNat_lt (by omega)]; omega) (by intro _; rw [toNat_ofNat_lt (by omega)]; omega) (by omega), toNat_ofNat_lt (by omega)]
    rw [gtkR_more _ _ _ _ (by rw [toNat_ofNat_lt (by omega)]; omega) (by omega) (by omega), toNat_ofNat_lt (by omega)]
    rw [gtkR_more _ _ _ _ (by rw [toNat_ofNat_lt (by omega)]; omega) (by omega) (by omega), toNat_ofNat_lt (by omega)]
    rw [gtkR_last _ _ _ _ (by rw [toNat_ofNat_lt (by omega)]; omega), toNat_ofNat_lt (by omega)]
    congr 2
    omega
/-- each beginning of it is too short -/
theorem take_begin (n k : Nat) (hn : n ≤ 268435455) (hk : k < gsize n) : takeG ((grp n).take k) = (0, 0, 2) := by
  unfold takeG
  have h0 : k = 0 ∨ k = 1 ∨ k = 2 ∨ k = 3 := by have := gsize_pos n; omega
  rcases grp_cases n hn with ⟨h1, h2, h3⟩ | ⟨h1, h4, h2, h3⟩ | ⟨h1, h4, h2, h3⟩ | ⟨h1, h2, h3⟩
  all_goals
    rw [h3]
    rcases h0 with rfl | rfl | rfl | rfl
    all_goals first | omega | skip
    all_goals simp only [List.take_zero, List.take_succ_cons]
    all_goals try rfl
    all_goals rw [gtkR_more _ _ _ _ (by rw [toNat_ofNat_lt (by omega)]; omega) (by intro _; rw [toNat_ofNat_lt (by omega)]; omega) (by omega), toNat_ofNat_lt (by omega)]
    all_goals try rfl
    all_goals rw [gtkR_more _ _ _ _ (by rw [toNat_ofNat_lt (by omega)]; omega) (by omega) (by omega), toNat_ofNat_lt (by omega)]
    all_goals try rfl
    all_goals rw [gtkR_more _ _ _ _ (by rw [toNat_ofNat_lt (by omega)]; omega) (by omega) (by omega), toNat_ofNat_lt (by omega)]
    all_goals rfl
theorem take_nought (l : List UInt8) : takeG (128 :: l) = (0, 0, 3) := gtkR_form _ _ _ _ (by decide) (.inl ⟨rfl, rfl⟩)
/-- What is taken is what was put. -/
theorem taken_grp (l : List UInt8) :
    (∃ n : Nat, n ≤ 268435455 ∧ takeG l = ((n : Int), (gsize n : Int), 0) ∧ gsize n ≤ l.length ∧ l.take (gsize n) = grp n) ∨ (takeG l = (0, 0, 3)) ∨ (takeG l = (0, 0, 2) ∧ l.length < 4) := by
  unfold takeG
  have bd : ∀ c : UInt8, c.toNat < 256 := fun c => c.toNat_lt
  have ok : ∀ (n : Nat) (a r : List UInt8), n ≤ 268435455 → a = grp n → gtkR 0 0 (a ++ r) = ((n : Int), (gsize n : Int), 0) ∧ gsize n ≤ (a ++ r).length ∧ (a ++ r).take (gsize n) = grp n := by
    intro n a r hn ha
    subst ha
    refine ⟨take_grp n hn r, by rw [List.length_append, grp_length]; omega, ?_⟩
    rw [← grp_length, List.take_left' rfl]
  have eqb : ∀ (c : UInt8) (m : Nat), c.toNat = m → c = UInt8.ofNat m := by
    intro c m h
    apply UInt8.toNat.inj
    rw [toNat_ofNat_lt (by have := bd c; omega), h]
  match l with
  | [] => exact .inr (.inr ⟨rfl, by simp⟩)
  | a :: l =>
    have ba := bd a
    by_cases ha : a.toNat < 128
    · left
      refine ⟨a.toNat, by omega, ?_⟩
      refine ok a.toNat [a] l (by omega) ?_
      rcases grp_cases a.toNat (by omega) with ⟨h1, h2, h3⟩ | ⟨h1, h4, h2, h3⟩ | ⟨h1, h4, h2, h3⟩ | ⟨h1, h2, h3⟩ <;> first | omega | skip
      rw [h3, ← eqb a _ rfl]
    · by_cases ha2 : a.toNat = 128
      · exact .inr (.inl (gtkR_form _ _ _ _ (by omega) (.inl ⟨rfl, ha2⟩)))
      · rw [gtkR_more 0 0 a l (by omega) (by omega) (by omega)]
        match l with
        | [] => exact .inr (.inr ⟨rfl, by simp⟩)
        | b :: l =>
          have bb := bd b
          by_cases hb : b.toNat < 128
          · left
            rw [← gtkR_more 0 0 a (b :: l) (by omega) (by omega) (by omega)]
            refine ⟨(a.toNat - 128) * 128 + b.toNat, by omega, ?_⟩
            refine ok _ [a, b] l (by omega) ?_
            rcases grp_cases ((a.toNat - 128) * 128 + b.toNat) (by omega) with ⟨h1, h2, h3⟩ | ⟨h1, h4, h2, h3⟩ | ⟨h1, h4, h2, h3⟩ | ⟨h1, h2, h3⟩ <;> first | omega | skip
            rw [h3, ← eqb a _ (by omega), ← eqb b _ (by omega)]
          · rw [gtkR_more 1 _ b l (by omega) (by omega) (by omega)]
            match l with
            | [] => exact .inr (.inr ⟨rfl, by simp⟩)
            | c :: l =>
              have bc := bd c
              by_cases hc : c.toNat < 128
              · left
                rw [← gtkR_more 1 _ b (c :: l) (by omega) (by omega) (by omega), ← gtkR_more 0 0 a (b :: c :: l) (by omega) (by omega) (by omega)]
                refine ⟨((a.toNat - 128) * 128 + (b.toNat - 128)) * 128 + c.toNat, by omega, ?_⟩
                refine ok _ [a, b, c] l (by omega) ?_
                rcases grp_cases (((a.toNat - 128) * 128 + (b.toNat - 128)) * 128 + c.toNat) (by omega) with ⟨h1, h2, h3⟩ | ⟨h1, h4, h2, h3⟩ | ⟨h1, h4, h2, h3⟩ | ⟨h1, h2, h3⟩ <;> first | omega | skip
                rw [h3, ← eqb a _ (by omega), ← eqb b _ (by omega), ← eqb c _ (by omega)]
              · rw [gtkR_more 2 _ c l (by omega) (by omega) (by omega)]
                match l with
                | [] => exact .inr (.inr ⟨rfl, by simp⟩)
                | d :: l =>
                  have bd' := bd d
                  by_cases hd : d.toNat < 128
                  · left
                    rw [← gtkR_more 2 _ c (d :: l) (by omega) (by omega) (by omega), ← gtkR_more 1 _ b (c :: d :: l) (by omega) (by omega) (by omega), ← gtkR_more 0 0 a (b :: c :: d :: l) (by omega) (by omega) (by omega)]
                    refine ⟨(((a.toNat - 128) * 128 + (b.toNat - 128)) * 128 + (c.toNat - 128)) * 128 + d.toNat, by omega, ?_⟩
                    refine ok _ [a, b, c, d] l (by omega) ?_
                    rcases grp_cases ((((a.toNat - 128) * 128 + (b.toNat - 128)) * 128 + (c.toNat - 128)) * 128 + d.toNat) (by omega) with ⟨h1, h2, h3⟩ | ⟨h1, h4, h2, h3⟩ | ⟨h1, h4, h2, h3⟩ | ⟨h1, h2, h3⟩ <;> first | omega | skip
                    rw [h3, ← eqb a _ (by omega), ← eqb b _ (by omega), ← eqb c _ (by omega), ← eqb d _ (by omega)]
                  · exact .inr (.inl (gtkR_form _ _ _ _ (by omega) (.inr rfl)))
/-- No number's bytes begin with another one's. -/
theorem grp_free (x y : Nat) (hx : x ≤ 268435455) (hy : y ≤ 268435455) (h : (grp x).take (min (gsize x) (gsize y)) = (grp y).take (min (gsize x) (gsize y))) : x = y := by
  rcases Nat.le_total (gsize x) (gsize y) with hs | hs
  · rw [Nat.min_eq_left hs, List.take_of_length_le (by rw [grp_length]; exact Nat.le_refl _)] at h
    have h1 := take_grp x hx ((grp y).drop (gsize x))
    rw [h, List.take_append_drop] at h1
    have h2 := take_grp y hy []
    rw [List.append_nil, h1] at h2
    injection h2 with h2
    omega
  · rw [Nat.min_eq_right hs, List.take_of_length_le (l := grp y) (by rw [grp_length]; exact Nat.le_refl _)] at h
    have h1 := take_grp y hy ((grp x).drop (gsize y))
    rw [← h, List.take_append_drop] at h1
    have h2 := take_grp x hx []
    rw [List.append_nil, h1] at h2
    injection h2 with h2
    omega
/-- Of two numbers of one size the greater one has the greater bytes. -/
theorem grp_less (x y : Nat) (hx : x ≤ 268435455) (hy : y ≤ 268435455) (hs : gsize x = gsize y) : grp x < grp y ↔ x < y := by
  have lt1 : ∀ a b : Nat, a < 256 → b < 256 → (UInt8.ofNat a < UInt8.ofNat b ↔ a < b) := by
    intro a b ha hb
    rw [UInt8.lt_iff_toNat_lt, toNat_ofNat_lt ha, toNat_ofNat_lt hb]
  have eq1 : ∀ a b : Nat, a < 256 → b < 256 → (UInt8.ofNat a = UInt8.ofNat b ↔ a = b) := by
    intro a b ha hb
    constructor
    · intro h
      have := congrArg UInt8.toNat h
      rwa [toNat_ofNat_lt ha, toNat_ofNat_lt hb] at this
    · intro h
      rw [h]
  have nn : ¬ (([] : List UInt8) < []) := by simp
  rcases grp_cases x hx with ⟨h1, h2, h3⟩ | ⟨h1, h4, h2, h3⟩ | ⟨h1, h4, h2, h3⟩ | ⟨h1, h2, h3⟩ <;>
    rcases grp_cases y hy with ⟨g1, g2, g3⟩ | ⟨g1, g4, g2, g3⟩ | ⟨g1, g4, g2, g3⟩ | ⟨g1, g2, g3⟩ <;>
    first
      | (exfalso; omega)
      | skip
  · rw [h3, g3, List.cons_lt_cons_iff, lt1 _ _ (by omega) (by omega), eq1 _ _ (by omega) (by omega)]
    simp only [nn, and_false, or_false]
  · rw [h3, g3, List.cons_lt_cons_iff, lt1 _ _ (by omega) (by omega), eq1 _ _ (by omega) (by omega), List.cons_lt_cons_iff, lt1 _ _ (by omega) (by omega), eq1 _ _ (by omega) (by omega)]
    simp only [nn, and_false, or_false]
    omega
  · rw [h3, g3, List.cons_lt_cons_iff, lt1 _ _ (by omega) (by omega), eq1 _ _ (by omega) (by omega), List.cons_lt_cons_iff, lt1 _ _ (by omega) (by omega), eq1 _ _ (by omega) (by omega), List.cons_lt_cons_iff, lt1 _ _ (by omega) (by omega), eq1 _ _ (by omega) (by omega)]
    simp only [nn, and_false, or_false]
    omega
  · rw [h3, g3, List.cons_lt_cons_iff, lt1 _ _ (by omega) (by omega), eq1 _ _ (by omega) (by omega), List.cons_lt_cons_iff, lt1 _ _ (by omega) (by omega), eq1 _ _ (by omega) (by omega), List.cons_lt_cons_iff, lt1 _ _ (by omega) (by omega), eq1 _ _ (by omega) (by omega), List.cons_lt_cons_iff, lt1 _ _ (by omega) (by omega), eq1 _ _ (by omega) (by omega)]
    simp only [nn, and_false, or_false]
    omega
/-- the last byte, and those ahead of it -/
theorem grp_last (x : Nat) : (grp x)[gsize x - 1]? = some (UInt8.ofNat (x % 128)) := by
  obtain ⟨l, h1, _, h3⟩ := grp_snoc x
  rw [h3, ← h1, List.getElem?_append_right (Nat.le_refl _), Nat.sub_self]
  rfl
theorem hi_high (k : Nat) : ∀ n, ∀ b ∈ hi k n, 128 ≤ b.toNat := by
  induction k with
  | zero => intro n b hb; simp [hi] at hb
  | succ k ih =>
    intro n b hb
    rw [hi] at hb
    rcases List.mem_append.1 hb with hb | hb
    · exact ih _ b hb
    · rw [List.mem_singleton.1 hb, toNat_ofNat_lt (by omega)]
      omega
theorem size_up (x : Nat) (hx : x ≤ 268435455) (h : 128 ≤ x) : gsize (x / 128) + 1 = gsize x := by
  unfold gsize
  by_cases h1 : x < 16384
  · rw [if_pos (by omega), if_neg (by omega), if_pos h1]
  · by_cases h2 : x < 2097152
    · rw [if_neg (by omega), if_pos (by omega), if_neg (by omega), if_neg h1, if_pos h2]
    · rw [if_neg (by omega), if_neg (by omega), if_pos (by omega), if_neg (by omega), if_neg h1, if_neg h2]
theorem grp_up (x j : Nat) (hx : x ≤ 268435455) (h : 128 ≤ x) (hj : j < gsize (x / 128)) (a b : UInt8) (ha : (grp x)[j]? = some a) (hb : (grp (x / 128))[j]? = some b) : a.toNat = b.toNat ||| 128 := by
  have hsz := size_up x hx h
  have hj4 : j = 0 ∨ j = 1 ∨ j = 2 := by have := gsize_pos x; omega
  have or7 : ∀ y : Nat, y < 128 → y ||| 128 = 128 + y := by
    intro y hy
    have := Nat.shiftLeft_add_eq_or_of_lt (i := 7) (b := y) (by omega) 1
    rw [Nat.shiftLeft_eq, show (1 * 2 ^ 7 : Nat) = 128 from rfl] at this
    rw [Nat.or_comm]
    exact this.symm
  have or8 : ∀ y : Nat, y < 128 → (128 + y) ||| 128 = 128 + y := by
    intro y hy
    rw [← or7 y hy, Nat.or_assoc, Nat.or_self]
  rcases grp_cases x hx with ⟨h1, h2, h3⟩ | ⟨h1, h4, h2, h3⟩ | ⟨h1, h4, h2, h3⟩ | ⟨h1, h2, h3⟩ <;>
    rcases grp_cases (x / 128) (by omega) with ⟨g1, g2, g3⟩ | ⟨g1, g4, g2, g3⟩ | ⟨g1, g4, g2, g3⟩ | ⟨g1, g2, g3⟩ <;>
    first
      | (exfalso; omega)
      | skip
  all_goals
    rw [h3] at ha
    rw [g3] at hb
    rcases hj4 with rfl | rfl | rfl
  all_goals first | (exfalso; omega) | skip
  all_goals
    simp only [List.getElem?_cons_zero, List.getElem?_cons_succ, Option.some.injEq] at ha hb
    subst ha
    subst hb
    rw [toNat_ofNat_lt (by omega), toNat_ofNat_lt (by omega)]
    first
      | (rw [or7 _ (by omega)]; done)
      | (rw [or7 _ (by omega)]; omega)
      | (rw [or8 _ (by omega)]; done)
      | (rw [or8 _ (by omega)]; omega)
theorem or_seven (a b : Nat) (hb : b < 128) : (a * 128) ||| b = a * 128 + b := by
  have := Nat.shiftLeft_add_eq_or_of_lt (i := 7) (b := b) (by omega) a
  rw [Nat.shiftLeft_eq] at this
  exact this.symm
end Go.Proofs.YtohggpaffmcfoaaDoor
end
section
namespace Go.Proofs.YtohggpaffmcfoaaDoor
set_option linter.unusedVariables false
set_option maxRecDepth 100000
set_option linter.unusedSimpArgs false

/-- one shift -/
def hf (x : Nat) : Nat := if x % 2 = 1 then (x / 2) ^^^ 2197175160 else x / 2
/-- so many shifts -/
def hfs : Nat → Nat → Nat
  | 0, x => x
  | k + 1, x => hf (hfs k x)
/-- a sum behind a byte -/
def stepN (s c : Nat) : Nat := hfs 8 (s ^^^ c)
/-- what bytes make of a sum that is turned -/
def runN (s : Nat) (l : List UInt8) : Nat := l.foldl (fun s c => stepN s c.toNat) s
def flipN (s : Nat) : Nat := 4294967295 - s
def moreN (s : Nat) (l : List UInt8) : Nat := flipN (runN (flipN s) l)
def sumN (l : List UInt8) : Nat := moreN 0 l

theorem xor_mod2 (a b : Nat) : (a ^^^ b) % 2 = (a % 2 + b % 2) % 2 := by
  have h := Nat.testBit_xor a b 0
  simp only [Nat.testBit_zero] at h
  have ha := Nat.mod_two_eq_zero_or_one a
  have hb := Nat.mod_two_eq_zero_or_one b
  have hc := Nat.mod_two_eq_zero_or_one (a ^^^ b)
  rcases ha with ha | ha <;> rcases hb with hb | hb <;> rcases hc with hc | hc <;> simp [ha, hb, hc] at h ⊢
theorem xor_div2 (a b : Nat) : (a ^^^ b) / 2 = (a / 2) ^^^ (b / 2) := by
  have h := Nat.shiftRight_xor_distrib (a := a) (b := b) (i := 1)
  simpa [Nat.shiftRight_eq_div_pow] using h
theorem hf_xor (a b : Nat) : hf (a ^^^ b) = hf a ^^^ hf b := by
  unfold hf
  rw [xor_mod2, xor_div2]
  have ha := Nat.mod_two_eq_zero_or_one a
  have hb := Nat.mod_two_eq_zero_or_one b
  rcases ha with ha | ha <;> rcases hb with hb | hb <;> simp only [ha, hb] <;> simp
  · rw [Nat.xor_assoc]
  · rw [Nat.xor_assoc, Nat.xor_assoc, Nat.xor_comm 2197175160]
  · rw [Nat.xor_assoc, Nat.xor_comm 2197175160, Nat.xor_assoc, Nat.xor_self, Nat.xor_zero]
theorem hfs_xor (k a b : Nat) : hfs k (a ^^^ b) = hfs k a ^^^ hfs k b := by
  induction k with
  | zero => rfl
  | succ k ih => rw [hfs, ih, hf_xor]; rfl
theorem hf_lt (x : Nat) (h : x < 4294967296) : hf x < 4294967296 := by
  unfold hf
  split
  · exact Nat.xor_lt_two_pow (n := 32) (by omega) (by omega)
  · omega
theorem hfs_lt (k x : Nat) (h : x < 4294967296) : hfs k x < 4294967296 := by
  induction k with
  | zero => exact h
  | succ k ih => exact hf_lt _ ih
theorem hf_double (y : Nat) : hf (2 * y) = y := by unfold hf; rw [if_neg (by omega)]; omega
theorem hfs_up (k x : Nat) : hfs (k + 1) x = hfs k (hf x) := by
  induction k with
  | zero => rfl
  | succ k ih => rw [hfs, ih]; rfl
theorem hfs_pow (k y : Nat) : hfs k (2 ^ k * y) = y := by
  induction k generalizing y with
  | zero => simp [hfs]
  | succ k ih => rw [hfs_up, Nat.pow_succ, Nat.mul_comm (2 ^ k), Nat.mul_assoc, hf_double, ih]
theorem hfs_add (j k x : Nat) : hfs j (hfs k x) = hfs (j + k) x := by
  induction j with
  | zero => rw [Nat.zero_add]; rfl
  | succ j ih => rw [Nat.succ_add, hfs, ih]; rfl
/-- a number is its high bits and its low ones -/
theorem split_xor (k x : Nat) : x = (2 ^ k * (x / 2 ^ k)) ^^^ (x % 2 ^ k) := by
  apply Nat.eq_of_testBit_eq
  intro i
  rw [Nat.testBit_xor, Nat.testBit_mod_two_pow, Nat.testBit_two_pow_mul, Nat.testBit_div_two_pow]
  by_cases h : i < k
  · simp [h, show ¬ k ≤ i by omega]
  · simp [h, show k ≤ i by omega, show i - k + k = i by omega]
theorem hfs_split (k x : Nat) : hfs k x = (x / 2 ^ k) ^^^ hfs k (x % 2 ^ k) := by
  conv => lhs; rw [split_xor k x]
  rw [hfs_xor, hfs_pow]
theorem stepN_lt (s c : Nat) (hs : s < 4294967296) (hc : c < 256) : stepN s c < 4294967296 := hfs_lt _ _ (Nat.xor_lt_two_pow (n := 32) (by omega) (by omega))
theorem stepN_xor (s t c d : Nat) : stepN s c ^^^ stepN t d = stepN (s ^^^ t) (c ^^^ d) := by
  unfold stepN
  rw [← hfs_xor]
  congr 1
  apply Nat.eq_of_testBit_eq
  intro i
  simp only [Nat.testBit_xor]
  cases s.testBit i <;> cases t.testBit i <;> cases c.testBit i <;> cases d.testBit i <;> rfl
theorem stepN_zero : stepN 0 0 = 0 := by decide
/-- the byte that is the sum's own lowest one -/
theorem stepN_own (s : Nat) : stepN s (s % 256) = s / 256 := by
  have h : s ^^^ (s % 256) = 256 * (s / 256) := by
    have h1 := split_xor 8 s
    rw [show (2 : Nat) ^ 8 = 256 from rfl] at h1
    conv => lhs; rw [h1]
    have h2 : ((256 * (s / 256)) ^^^ (s % 256)) % 256 = s % 256 := by rw [← h1]
    rw [h2, Nat.xor_assoc, Nat.xor_self, Nat.xor_zero]
  unfold stepN
  rw [h]
  exact hfs_pow 8 _
theorem flipN_le (s : Nat) : flipN s ≤ 4294967295 := by unfold flipN; omega
theorem flip_flip (s : Nat) (h : s ≤ 4294967295) : flipN (flipN s) = s := by unfold flipN; omega
theorem xor_ones (s : Nat) (h : s ≤ 4294967295) : s ^^^ 4294967295 = flipN s := by
  apply Nat.eq_of_testBit_eq
  intro i
  have h2 := Nat.testBit_two_pow_sub_succ (x := s) (n := 32) (by omega) i
  rw [show flipN s = 2 ^ 32 - (s + 1) from by unfold flipN; omega, h2, Nat.testBit_xor, show (4294967295 : Nat) = 2 ^ 32 - 1 from rfl, Nat.testBit_two_pow_sub_one]
  by_cases hi : i < 32
  · simp [hi]
  · have : s.testBit i = false := Nat.testBit_lt_two_pow (Nat.lt_of_lt_of_le (by omega : s < 2 ^ 32) (Nat.pow_le_pow_right (by omega) (by omega)))
    simp [hi, this]
theorem runN_le (s : Nat) (l : List UInt8) (h : s ≤ 4294967295) : runN s l ≤ 4294967295 := by
  induction l generalizing s with
  | nil => exact h
  | cons c l ih => exact ih (stepN s c.toNat) (by have := stepN_lt s c.toNat (by omega) c.toNat_lt; omega)
theorem runN_append (s : Nat) (a b : List UInt8) : runN s (a ++ b) = runN (runN s a) b := by simp [runN]
theorem runN_snoc (s : Nat) (a : List UInt8) (c : UInt8) : runN s (a ++ [c]) = stepN (runN s a) c.toNat := by simp [runN]
theorem runN_take (s : Nat) (l : List UInt8) (k : Nat) (h : k < l.length) : runN s (l.take (k + 1)) = stepN (runN s (l.take k)) l[k].toNat := by
  rw [List.take_succ_eq_append_getElem h, runN_snoc]
theorem moreN_le (s : Nat) (l : List UInt8) : moreN s l ≤ 4294967295 := flipN_le _
theorem moreN_append (s : Nat) (a b : List UInt8) : moreN (moreN s a) b = moreN s (a ++ b) := by
  unfold moreN
  rw [flip_flip _ (runN_le _ _ (flipN_le _)), runN_append]
theorem moreN_nil (s : Nat) (h : s ≤ 4294967295) : moreN s [] = s := flip_flip s h
/-- two rows, turned where unlike -/
def mixN (a b : List UInt8) : List UInt8 := List.zipWith (· ^^^ ·) a b
theorem runN_mix (a : List UInt8) : ∀ (b : List UInt8) (s t : Nat), a.length = b.length → runN s a ^^^ runN t b = runN (s ^^^ t) (mixN a b) := by
  induction a with
  | nil =>
    intro b s t h
    obtain rfl : b = [] := List.eq_nil_of_length_eq_zero h.symm
    rfl
  | cons c a ih =>
    intro b s t h
    cases b with
    | nil => simp at h
    | cons d b =>
      simp only [runN, mixN, List.foldl_cons, List.zipWith_cons_cons] at ih ⊢
      rw [ih b _ _ (by simpa using h), stepN_xor, UInt8.toNat_xor]
theorem flip_xor (s t : Nat) (hs : s ≤ 4294967295) (ht : t ≤ 4294967295) : flipN s ^^^ flipN t = s ^^^ t := by
  rw [← xor_ones s hs, ← xor_ones t ht, Nat.xor_comm t, Nat.xor_assoc, ← Nat.xor_assoc 4294967295, Nat.xor_self, Nat.zero_xor]
theorem mix_zero (a : List UInt8) : mixN a (List.replicate a.length 0) = a := by
  induction a with
  | nil => rfl
  | cons c a ih => simp only [mixN, List.length_cons, List.replicate_succ, List.zipWith_cons_cons] at ih ⊢; rw [ih]; simp
theorem sumN_mix (a b : List UInt8) (h : a.length = b.length) : sumN a ^^^ sumN b = sumN (mixN a b) ^^^ sumN (List.replicate a.length 0) := by
  unfold sumN moreN
  rw [flip_xor _ _ (runN_le _ _ (flipN_le _)) (runN_le _ _ (flipN_le _)), flip_xor _ _ (runN_le _ _ (flipN_le _)) (runN_le _ _ (flipN_le _)), runN_mix _ _ _ _ h]
  have hl : (mixN a b).length = a.length := by simp [mixN, h]
  rw [runN_mix _ _ _ _ (by rw [hl, List.length_replicate]), ← hl, mix_zero, Nat.xor_self]
end Go.Proofs.YtohggpaffmcfoaaDoor
end
section
namespace Go.Proofs.YtohggpaffmcfoaaDoor
set_option linter.unusedVariables false
set_option maxRecDepth 100000
set_option linter.unusedSimpArgs false

def sealN (l : List UInt8) : List UInt8 := l ++ be 4 (sumN l)
def frameN (m : Nat) (l : List UInt8) : List UInt8 := sealN (be 4 m ++ l)
def takeF (m : Nat) (l : List UInt8) : List UInt8 × Int :=
  if l.length < 8 then ([], 2)
  else if l.take 4 ≠ be 4 m then ([], 5)
  else if sealN (l.take (l.length - 4)) ≠ l then ([], 6)
  else ((l.take (l.length - 4)).drop 4, 0)
theorem sealN_length (l : List UInt8) : (sealN l).length = l.length + 4 := by simp [sealN, be_length]
theorem frameN_length (m : Nat) (l : List UInt8) : (frameN m l).length = l.length + 8 := by simp [frameN, sealN_length, be_length]; omega
theorem sumN_le (l : List UInt8) : sumN l ≤ 4294967295 := moreN_le 0 l
theorem sealN_head (l : List UInt8) : (sealN l).take l.length = l := by simp [sealN]
theorem sealN_eq (l : List UInt8) (n : Nat) (h : l.length = n + 4) : sealN (l.take n) = l ↔ val (l.drop n) = sumN (l.take n) := by
  constructor
  · intro h1
    have h2 : (sealN (l.take n)).drop n = l.drop n := by rw [h1]
    rw [sealN, List.drop_append_of_le_length (by rw [List.length_take]; omega), List.drop_of_length_le (by rw [List.length_take]; omega), List.nil_append] at h2
    rw [← h2]
    exact val_be_lt 4 _ (by have := sumN_le (l.take n); omega)
  · intro h1
    rw [sealN, ← h1]
    have h2 := be_val (l.drop n)
    rw [List.length_drop, show l.length - n = 4 from by omega] at h2
    rw [h2, List.take_append_drop]
theorem take_frame (m : Nat) (l : List UInt8) : takeF m (frameN m l) = (l, 0) := by
  have hl := frameN_length m l
  have h4 := be_length 4 m
  have h1 : (frameN m l).take 4 = be 4 m := by rw [frameN, sealN, List.append_assoc, List.take_append_of_le_length (by omega), List.take_of_length_le (by omega)]
  have h2 : (frameN m l).take ((frameN m l).length - 4) = be 4 m ++ l := by
    have h := sealN_head (be 4 m ++ l)
    rw [List.length_append, h4] at h
    rw [hl, show l.length + 8 - 4 = 4 + l.length from by omega]
    exact h
  rw [takeF, if_neg (by omega), if_neg (by rw [h1]; simp), h2, if_neg (by rw [← frameN]; simp)]
  rw [List.drop_append_of_le_length (by omega), List.drop_of_length_le (by omega), List.nil_append]
theorem take_other (m k : Nat) (l : List UInt8) (hm : m ≤ 4294967295) (hk : k ≤ 4294967295) (h : m ≠ k) : takeF k (frameN m l) = ([], 5) := by
  have hl := frameN_length m l
  have h4 := be_length 4 m
  have h1 : (frameN m l).take 4 = be 4 m := by rw [frameN, sealN, List.append_assoc, List.take_append_of_le_length (by omega), List.take_of_length_le (by omega)]
  rw [takeF, if_neg (by omega), if_pos]
  rw [h1]
  intro he
  exact h (be_inj (s := 4) (by omega) (by omega) he)
/-- What is taken is put to just these bytes. -/
theorem taken_frame (m : Nat) (l : List UInt8) (h : (takeF m l).2 = 0) : frameN m (takeF m l).1 = l := by
  unfold takeF at h ⊢
  split at h <;> rename_i h1
  · cases h
  split at h <;> rename_i h2
  · cases h
  split at h <;> rename_i h3
  · cases h
  rw [if_neg h1, if_neg h2, if_neg h3]
  have h2' : l.take 4 = be 4 m := Classical.not_not.1 h2
  have h3' : sealN (l.take (l.length - 4)) = l := Classical.not_not.1 h3
  show sealN (be 4 m ++ (l.take (l.length - 4)).drop 4) = l
  have h5 : be 4 m ++ (l.take (l.length - 4)).drop 4 = l.take (l.length - 4) := by
    have h6 := List.take_append_drop 4 (l.take (l.length - 4))
    rw [List.take_take, Nat.min_eq_left (by omega), h2'] at h6
    exact h6
  rw [h5]
  exact h3'
/-- of bytes with their own sum behind them -/
theorem take_sealed (m : Nat) (l : List UInt8) : takeF m (sealN l) = if l.length < 4 then ([], 2) else if l.take 4 ≠ be 4 m then ([], 5) else (l.drop 4, 0) := by
  have hl := sealN_length l
  by_cases h : l.length < 4
  · rw [takeF, if_pos (by omega), if_pos h]
  · rw [takeF, if_neg (by omega), if_neg h]
    have h1 : (sealN l).take 4 = l.take 4 := by rw [sealN, List.take_append_of_le_length (by omega)]
    have h2 : (sealN l).take ((sealN l).length - 4) = l := by
      rw [hl, Nat.add_sub_cancel]
      exact sealN_head l
    rw [h1, h2, if_neg (show ¬ sealN l ≠ sealN l from by simp)]
theorem frame_inj (m k : Nat) (a b : List UInt8) (hm : m ≤ 4294967295) (hk : k ≤ 4294967295) : frameN m a = frameN k b ↔ m = k ∧ a = b := by
  constructor
  · intro h
    by_cases he : m = k
    · subst he
      refine ⟨rfl, ?_⟩
      have h1 := take_frame m a
      rw [h, take_frame] at h1
      exact (Prod.mk.inj h1).1.symm
    · exfalso
      have h1 := take_other m k a hm hk he
      rw [h, take_frame] at h1
      have := (Prod.mk.inj h1).2
      omega
  · rintro ⟨rfl, rfl⟩
    rfl

/-! bytes as one number: the lowest bit of the first one first -/
def levN : List UInt8 → Nat
  | [] => 0
  | b :: l => b.toNat + 256 * levN l
theorem levN_lt : ∀ l : List UInt8, levN l < 2 ^ (8 * l.length)
  | [] => by simp [levN]
  | b :: l => by
    have h := levN_lt l
    have hb := b.toNat_lt
    rw [levN, List.length_cons, show 8 * (l.length + 1) = 8 * l.length + 8 from by omega, Nat.pow_add]
    omega
theorem levN_append : ∀ a b : List UInt8, levN (a ++ b) = levN a + 2 ^ (8 * a.length) * levN b
  | [], b => by simp [levN]
  | x :: a, b => by
    rw [List.cons_append, levN, levN, levN_append a b, List.length_cons, show 8 * (a.length + 1) = 8 + 8 * a.length from by omega, Nat.pow_add, Nat.mul_assoc]
    omega
theorem levN_inj : ∀ a b : List UInt8, a.length = b.length → levN a = levN b → a = b
  | [], [], _, _ => rfl
  | [], _ :: _, h, _ => by simp at h
  | _ :: _, [], h, _ => by simp at h
  | x :: a, y :: b, h, e => by
    rw [levN, levN] at e
    have hx := x.toNat_lt
    have hy := y.toNat_lt
    have h1 : x.toNat = y.toNat := by omega
    have h2 : levN a = levN b := by omega
    rw [levN_inj a b (by simpa using h) h2, UInt8.toNat_inj.1 h1]
theorem levN_take (l : List UInt8) (k : Nat) (h : k ≤ l.length) : levN (l.take k) = levN l % 2 ^ (8 * k) := by
  have h1 := levN_append (l.take k) (l.drop k)
  have h2 := levN_lt (l.take k)
  rw [List.length_take, Nat.min_eq_left h] at h1 h2
  rw [List.take_append_drop] at h1
  rw [h1, Nat.add_mul_mod_self_left, Nat.mod_eq_of_lt h2]
theorem levN_drop (l : List UInt8) (k : Nat) (h : k ≤ l.length) : levN (l.drop k) = levN l / 2 ^ (8 * k) := by
  have h1 := levN_append (l.take k) (l.drop k)
  have h2 := levN_lt (l.take k)
  rw [List.length_take, Nat.min_eq_left h] at h1 h2
  rw [List.take_append_drop] at h1
  rw [h1, Nat.add_mul_div_left _ _ (Nat.two_pow_pos _), Nat.div_eq_of_lt h2, Nat.zero_add]
theorem xor_low (x v c : Nat) (hc : c < 256) : x ^^^ (c + 256 * v) = (x ^^^ c) ^^^ (256 * v) := by
  have h := split_xor 8 (c + 256 * v)
  rw [show (2 : Nat) ^ 8 = 256 from rfl, show (c + 256 * v) / 256 = v from by omega, show (c + 256 * v) % 256 = c from by omega] at h
  rw [h, Nat.xor_assoc, Nat.xor_comm c]
/-- A row of steps is one row of half-turns of its number. -/
theorem runN_lev : ∀ (l : List UInt8) (s : Nat), runN s l = hfs (8 * l.length) (s ^^^ levN l)
  | [], s => by simp [runN, levN, hfs]
  | b :: l, s => by
    have h1 : runN s (b :: l) = runN (stepN s b.toNat) l := rfl
    rw [h1, runN_lev l, levN, xor_low _ _ _ b.toNat_lt, List.length_cons, show 8 * (l.length + 1) = 8 * l.length + 8 from by omega, ← hfs_add, hfs_xor 8, show hfs 8 (256 * levN l) = levN l from hfs_pow 8 _]
    rfl
theorem hf_pos (x : Nat) (h0 : 0 < x) (h : x < 4294967296) : 0 < hf x := by
  unfold hf
  split
  · have h1 : x / 2 < 2 ^ 31 := by omega
    have h2 : ((x / 2) ^^^ 2197175160) / 2 ^ 31 = 1 := by
      rw [Nat.xor_div_two_pow, Nat.div_eq_of_lt h1]
      decide
    rcases Nat.eq_zero_or_pos ((x / 2) ^^^ 2197175160) with h3 | h3
    · rw [h3] at h2
      cases h2
    · exact h3
  · omega
theorem hfs_pos : ∀ (k x : Nat), 0 < x → x < 4294967296 → 0 < hfs k x
  | 0, x, h0, _ => h0
  | k + 1, x, h0, h => by
    rw [hfs_up]
    exact hfs_pos k _ (hf_pos x h0 h) (hf_lt x h)
theorem hfs_burst (N f T : Nat) (hT : 0 < T) (hT2 : T < 4294967296) (h : f ≤ N) : 0 < hfs N (2 ^ f * T) := by
  rw [show N = (N - f) + f from by omega, ← hfs_add, hfs_pow]
  exact hfs_pos _ _ hT hT2
theorem flipN_inj {a b : Nat} (ha : a ≤ 4294967295) (hb : b ≤ 4294967295) (h : flipN a = flipN b) : a = b := by unfold flipN at h; omega
/-- Bits that are turned next to each other turn the sum. -/
theorem sum_burst (a b : List UInt8) (hl : a.length = b.length) (f T : Nat) (hT : 0 < T) (hT2 : T < 4294967296) (hf : f ≤ 8 * a.length) (h : levN b = levN a ^^^ (2 ^ f * T)) : sumN b ≠ sumN a := by
  intro he
  have h1 : runN 4294967295 b = runN 4294967295 a := by
    have e1 : flipN (runN 4294967295 b) = flipN (runN 4294967295 a) := he
    exact flipN_inj (runN_le _ _ (by omega)) (runN_le _ _ (by omega)) e1
  rw [runN_lev, runN_lev, h, ← hl, ← Nat.xor_assoc, hfs_xor _ (4294967295 ^^^ levN a)] at h1
  have h2 := hfs_burst (8 * a.length) f T hT hT2 hf
  have h3 : hfs (8 * a.length) (4294967295 ^^^ levN a) ^^^ (hfs (8 * a.length) (4294967295 ^^^ levN a) ^^^ hfs (8 * a.length) (2 ^ f * T)) = 0 := by rw [h1, Nat.xor_self]
  rw [← Nat.xor_assoc, Nat.xor_self, Nat.zero_xor] at h3
  omega
/-- WHAT IS SPOILT IS NOT SEALED. -/
theorem spoilt (a o : List UInt8) (hl : o.length = a.length + 4) (x : Nat) (hx : levN o = levN (sealN a) ^^^ x)
    (h : (∃ f T, x = 2 ^ f * T ∧ 0 < T ∧ T < 4294967296 ∧ f ≤ 8 * a.length ∧ x < 2 ^ (8 * a.length)) ∨ (∃ y, x = 2 ^ (8 * a.length) * y ∧ 0 < y)) : sealN (o.take a.length) ≠ o := by
  intro he
  have hs : (sealN a).length = a.length + 4 := sealN_length a
  have t1 := levN_take o a.length (by omega)
  have t2 := levN_take (sealN a) a.length (by omega)
  have d1 := levN_drop o a.length (by omega)
  have d2 := levN_drop (sealN a) a.length (by omega)
  rw [sealN_head] at t2
  rcases h with ⟨f, T, rfl, hT, hT2, hf, hlt⟩ | ⟨y, rfl, hy⟩
  · have e1 : levN (o.take a.length) = levN a ^^^ (2 ^ f * T) := by rw [t1, hx, Nat.xor_mod_two_pow, ← t2, Nat.mod_eq_of_lt hlt]
    have e2 : o.drop a.length = (sealN a).drop a.length := by
      refine levN_inj _ _ (by rw [List.length_drop, List.length_drop]; omega) ?_
      rw [d1, d2, hx, Nat.xor_div_two_pow, Nat.div_eq_of_lt hlt, Nat.xor_zero]
    have hb := sum_burst a (o.take a.length) (by rw [List.length_take]; omega) f T hT hT2 hf e1
    have e3 : o.drop a.length = be 4 (sumN (o.take a.length)) := by
      have := congrArg (List.drop a.length) he
      rw [sealN, List.drop_append_of_le_length (by rw [List.length_take]; omega), List.drop_of_length_le (by rw [List.length_take]; omega), List.nil_append] at this
      exact this.symm
    have e4 : (sealN a).drop a.length = be 4 (sumN a) := by
      rw [sealN, List.drop_append_of_le_length (by omega), List.drop_of_length_le (by omega), List.nil_append]
    rw [e3, e4] at e2
    exact hb (be_inj (s := 4) (by have := sumN_le (o.take a.length); omega) (by have := sumN_le a; omega) e2)
  · have e1 : o.take a.length = a := by
      refine levN_inj _ _ (by rw [List.length_take]; omega) ?_
      rw [t1, hx, Nat.xor_mod_two_pow, ← t2, Nat.mul_mod_right, Nat.xor_zero]
    rw [e1] at he
    rw [he] at hx
    have h3 : levN o ^^^ (levN o ^^^ 2 ^ (8 * a.length) * y) = 0 := by rw [← hx, Nat.xor_self]
    rw [← Nat.xor_assoc, Nat.xor_self, Nat.zero_xor] at h3
    have := Nat.mul_pos (Nat.two_pow_pos (8 * a.length)) hy
    omega
/-- Take of what is spoilt: another magic or another sum. -/
theorem take_spoilt (m k : Nat) (a o : List UInt8) (hl : o.length = a.length + 8) (x : Nat) (hx : levN o = levN (frameN m a) ^^^ x)
    (h : (∃ f T, x = 2 ^ f * T ∧ 0 < T ∧ T < 4294967296 ∧ x < 2 ^ (8 * (a.length + 4))) ∨ (∃ y, x = 2 ^ (8 * (a.length + 4)) * y ∧ 0 < y)) : takeF k o = ([], 5) ∨ takeF k o = ([], 6) := by
  have hb : (be 4 m ++ a).length = a.length + 4 := by rw [List.length_append, be_length]; omega
  have hn : sealN (o.take (o.length - 4)) ≠ o := by
    have := spoilt (be 4 m ++ a) o (by omega) x hx (by
      rw [hb]
      rcases h with ⟨f, T, e, hT, hT2, hlt⟩ | h
      · refine .inl ⟨f, T, e, hT, hT2, ?_, hlt⟩
        subst e
        have h1 : 2 ^ f ≤ 2 ^ f * T := Nat.le_mul_of_pos_right _ hT
        rcases Nat.lt_or_ge (8 * (a.length + 4)) f with h2 | h2
        · have := Nat.pow_lt_pow_right (a := 2) (by omega) h2
          omega
        · exact h2
      · exact .inr h)
    rw [hb] at this
    rw [show o.length - 4 = a.length + 4 from by omega]
    exact this
  unfold takeF
  rw [if_neg (by omega)]
  by_cases h1 : o.take 4 ≠ be 4 k
  · rw [if_pos h1]
    exact .inl rfl
  · rw [if_neg h1, if_pos hn]
    exact .inr rfl

/-! one bit of a byte turned -/
def turnB (l : List UInt8) (p : Nat) : List UInt8 := l.modify (p / 8) fun b => b ^^^ UInt8.ofNat (2 ^ (p % 8))
theorem turnB_length (l : List UInt8) (p : Nat) : (turnB l p).length = l.length := by simp [turnB]
theorem low_xor (b : UInt8) (j v : Nat) (hj : j < 8) : (b ^^^ UInt8.ofNat (2 ^ j)).toNat + 256 * v = (b.toNat + 256 * v) ^^^ 2 ^ j := by
  have h2 : (2 : Nat) ^ j < 256 := by have := Nat.pow_lt_pow_right (a := 2) (by omega) hj; omega
  have h3 : (UInt8.ofNat (2 ^ j)).toNat = 2 ^ j := toNat_ofNat_lt h2
  rw [UInt8.toNat_xor, h3, Nat.xor_comm (b.toNat + 256 * v), xor_low _ _ _ b.toNat_lt, Nat.xor_comm (2 ^ j)]
  have h4 : b.toNat ^^^ 2 ^ j < 256 := Nat.xor_lt_two_pow (n := 8) b.toNat_lt h2
  have h5 := xor_low 0 v (b.toNat ^^^ 2 ^ j) h4
  rw [Nat.zero_xor, Nat.zero_xor] at h5
  exact h5
theorem up_xor (c v y : Nat) (hc : c < 256) : c + 256 * (v ^^^ y) = (c + 256 * v) ^^^ (256 * y) := by
  have h1 := xor_low 0 v c hc
  have h2 := xor_low 0 (v ^^^ y) c hc
  rw [Nat.zero_xor, Nat.zero_xor] at h1 h2
  rw [h1, h2, Nat.xor_assoc]
  congr 1
  have := Nat.shiftLeft_xor_distrib (i := 8) (a := v) (b := y)
  rw [Nat.shiftLeft_eq, Nat.shiftLeft_eq, Nat.shiftLeft_eq] at this
  rw [Nat.mul_comm 256, Nat.mul_comm 256, Nat.mul_comm 256]
  exact this
theorem levN_turn : ∀ (l : List UInt8) (p : Nat), p < 8 * l.length → levN (turnB l p) = levN l ^^^ 2 ^ p
  | [], p, h => by simp at h
  | b :: l, p, h => by
    by_cases h8 : p < 8
    · have e : turnB (b :: l) p = (b ^^^ UInt8.ofNat (2 ^ p)) :: l := by
        unfold turnB
        rw [show p / 8 = 0 from by omega, show p % 8 = p from by omega]
        rfl
      rw [e, levN, levN, low_xor _ _ _ h8]
    · have e : turnB (b :: l) p = b :: turnB l (p - 8) := by
        unfold turnB
        rw [show p / 8 = (p - 8) / 8 + 1 from by omega, show (p - 8) % 8 = p % 8 from by omega]
        rfl
      rw [e, levN, levN, levN_turn l (p - 8) (by simp at h; omega), up_xor _ _ _ b.toNat_lt]
      congr 1
      rw [show p = 8 + (p - 8) from by omega, Nat.pow_add, show 8 + (p - 8) - 8 = p - 8 from by omega]
/-- so many of the turned bits, from `f` on -/
def burstN (t f : Nat) : Nat → List UInt8 → List UInt8
  | 0, l => l
  | k + 1, l => if t / 2 ^ k % 2 = 1 then turnB (burstN t f k l) (f + k) else burstN t f k l
theorem burstN_length (t f : Nat) (l : List UInt8) : ∀ k, (burstN t f k l).length = l.length
  | 0 => rfl
  | k + 1 => by
    unfold burstN
    split
    · rw [turnB_length, burstN_length t f l k]
    · exact burstN_length t f l k
theorem mod_up (t k : Nat) : t % 2 ^ (k + 1) = t % 2 ^ k + 2 ^ k * (t / 2 ^ k % 2) := by
  rw [Nat.pow_succ, Nat.mod_mul]
theorem levN_burst (t f : Nat) (l : List UInt8) : ∀ k, f + k ≤ 8 * l.length → levN (burstN t f k l) = levN l ^^^ (2 ^ f * (t % 2 ^ k))
  | 0, h => by simp [burstN, Nat.mod_one]
  | k + 1, h => by
    have ih := levN_burst t f l k (by omega)
    have hm := mod_up t k
    unfold burstN
    split <;> rename_i hb
    · rw [levN_turn _ _ (by rw [burstN_length]; omega), ih, Nat.xor_assoc]
      congr 1
      rw [hm, hb, Nat.mul_one, Nat.pow_add, Nat.add_comm (t % 2 ^ k)]
      have hlt : t % 2 ^ k < 2 ^ k := Nat.mod_lt _ (Nat.two_pow_pos k)
      have hx : 2 ^ k + t % 2 ^ k = 2 ^ k ^^^ (t % 2 ^ k) := by
        have h1 := split_xor k (2 ^ k + t % 2 ^ k)
        rw [show (2 ^ k + t % 2 ^ k) / 2 ^ k = 1 from by rw [Nat.add_div_left _ (Nat.two_pow_pos k), Nat.div_eq_of_lt hlt], Nat.add_mod_left, Nat.mod_mod, Nat.mul_one] at h1
        exact h1
      rw [hx, Nat.xor_comm (2 ^ f * _)]
      have := Nat.shiftLeft_xor_distrib (i := f) (a := 2 ^ k) (b := t % 2 ^ k)
      rw [Nat.shiftLeft_eq, Nat.shiftLeft_eq, Nat.shiftLeft_eq] at this
      rw [Nat.mul_comm (2 ^ f) (2 ^ k ^^^ _), this, Nat.mul_comm (2 ^ f) (2 ^ k), Nat.mul_comm (2 ^ f) (t % 2 ^ k)]
    · rw [ih, hm, show t / 2 ^ k % 2 = 0 from by omega, Nat.mul_zero, Nat.add_zero]

/-! sections -/
def sectF (tag : UInt8) (l : List UInt8) : List UInt8 × Int := if l.length ≤ 268435455 then (tag :: (grp l.length ++ l), 0) else ([], 1)
def openF (tag : UInt8) (l : List UInt8) : List UInt8 × List UInt8 × Int :=
  match l with
  | [] => ([], [], 2)
  | x :: t =>
    if x ≠ tag then ([], [], 3)
    else if (takeG t).2.2 ≠ 0 then ([], [], (takeG t).2.2)
    else if ((t.drop (takeG t).2.1.toNat).length : Int) < (takeG t).1 then ([], [], 2)
    else ((t.drop (takeG t).2.1.toNat).take (takeG t).1.toNat, (t.drop (takeG t).2.1.toNat).drop (takeG t).1.toNat, 0)
theorem open_sect (tag : UInt8) (l r : List UInt8) (h : l.length ≤ 268435455) : openF tag (tag :: (grp l.length ++ l) ++ r) = (l, r, 0) := by
  have e : tag :: (grp l.length ++ l) ++ r = tag :: (grp l.length ++ (l ++ r)) := by simp
  rw [e, openF]
  have ht := take_grp l.length h (l ++ r)
  rw [ht]
  have hd : (grp l.length ++ (l ++ r)).drop (gsize l.length) = l ++ r := by
    rw [List.drop_append_of_le_length (by rw [grp_length]; exact Nat.le_refl _), List.drop_of_length_le (by rw [grp_length]; exact Nat.le_refl _), List.nil_append]
  simp only [Int.toNat_natCast, hd, ne_eq, not_true_eq_false, if_false, List.length_append]
  rw [if_neg (by omega)]
  simp
theorem open_other (tag tag' : UInt8) (l : List UInt8) (h : tag ≠ tag') : openF tag' (tag :: l) = ([], [], 3) := by rw [openF, if_pos h]
theorem open_begin (tag : UInt8) (l : List UInt8) (h : l.length ≤ 268435455) (k : Nat) (hk : k < (tag :: (grp l.length ++ l)).length) : openF tag ((tag :: (grp l.length ++ l)).take k) = ([], [], 2) := by
  cases k with
  | zero => rfl
  | succ k =>
    rw [List.length_cons, List.length_append, grp_length] at hk
    rw [List.take_succ_cons, openF, if_neg (by simp)]
    by_cases h1 : k < gsize l.length
    · have e : (grp l.length ++ l).take k = (grp l.length).take k := by rw [List.take_append_of_le_length (by rw [grp_length]; omega)]
      rw [e, take_begin _ _ h h1]
      rfl
    · have e : (grp l.length ++ l).take k = grp l.length ++ l.take (k - gsize l.length) := by
        rw [List.take_append, grp_length, List.take_of_length_le (by rw [grp_length]; omega)]
      rw [e, take_grp _ h]
      have hd : (grp l.length ++ l.take (k - gsize l.length)).drop (gsize l.length) = l.take (k - gsize l.length) := by
        rw [List.drop_append_of_le_length (by rw [grp_length]; exact Nat.le_refl _), List.drop_of_length_le (by rw [grp_length]; exact Nat.le_refl _), List.nil_append]
      simp only [Int.toNat_natCast, hd, ne_eq, not_true_eq_false, if_false]
      rw [if_pos (by rw [List.length_take]; omega)]
end Go.Proofs.YtohggpaffmcfoaaDoor
end
section
namespace Go.Proofs.YtohggpaffmcfoaaDoor
open Go.Lib
set_option linter.unusedVariables false
set_option maxRecDepth 100000
set_option linter.unusedSimpArgs false

/-! numbers as digits -/
theorem u8_lt {n : Nat} (h : n < 256) : (UInt8.ofNat n).toNat = n := by
  rw [UInt8.toNat_ofNat']
  exact Nat.mod_eq_of_lt h
theorem u8_of {c : UInt8} {n : Nat} (h : c.toNat = n) : c = UInt8.ofNat n := by
  subst h
  simp
def isDig (c : UInt8) : Bool := decide (48 ≤ c.toNat ∧ c.toNat ≤ 57)
theorem isDig_iff (c : UInt8) : isDig c = true ↔ 48 ≤ c.toNat ∧ c.toNat ≤ 57 := by simp [isDig]
theorem isDig_of {n : Nat} (h : n < 10) : isDig (UInt8.ofNat (48 + n)) = true := by rw [isDig_iff, u8_lt (by omega)]; omega
theorem dot_dig : isDig 46 = false := by decide
abbrev dec (n : Nat) : List UInt8 := decDigits n
theorem dec_big {n : Nat} (h : ¬ n < 10) : dec n = dec (n / 10) ++ [UInt8.ofNat (48 + n % 10)] := by
  show decDigits n = _
  rw [decDigits, dif_neg h]
theorem dec_small {n : Nat} (h : n < 10) : dec n = [UInt8.ofNat (48 + n)] := decDigits_one h
theorem dec_pos (n : Nat) : 0 < (dec n).length := by rw [decDigits_length]; exact nDigits_pos n
theorem dec_three {n : Nat} (h1 : 100 ≤ n) (h2 : n < 1000) : dec n = [UInt8.ofNat (48 + n / 100), UInt8.ofNat (48 + n / 10 % 10), UInt8.ofNat (48 + n % 10)] := by
  rw [dec_big (by omega), dec_big (n := n / 10) (by omega), dec_small (n := n / 10 / 10) (by omega)]
  simp [Nat.div_div_eq_div_mul]
theorem dec_cases (n : Nat) (h : n < 256) : (n < 10 ∧ dec n = [UInt8.ofNat (48 + n)]) ∨ (10 ≤ n ∧ n < 100 ∧ dec n = [UInt8.ofNat (48 + n / 10), UInt8.ofNat (48 + n % 10)]) ∨
    (100 ≤ n ∧ dec n = [UInt8.ofNat (48 + n / 100), UInt8.ofNat (48 + n / 10 % 10), UInt8.ofNat (48 + n % 10)]) := by
  by_cases h1 : n < 10
  · exact .inl ⟨h1, dec_small h1⟩
  · by_cases h2 : n < 100
    · exact .inr (.inl ⟨by omega, h2, decDigits_two h1 h2⟩)
    · exact .inr (.inr ⟨by omega, dec_three (by omega) (by omega)⟩)
theorem dec_le3 (n : Nat) (h : n < 256) : (dec n).length ≤ 3 := by
  rcases dec_cases n h with ⟨_, e⟩ | ⟨_, _, e⟩ | ⟨_, e⟩ <;> rw [e] <;> simp
theorem dec_digs (n : Nat) : ∀ c ∈ dec n, isDig c = true := by
  induction n using Nat.strongRecOn with
  | _ n ih =>
    by_cases h : n < 10
    · rw [dec_small h]
      intro c hc
      rw [List.mem_singleton] at hc
      subst hc
      exact isDig_of h
    · rw [dec_big h]
      intro c hc
      rcases List.mem_append.1 hc with h1 | h1
      · exact ih _ (by omega) c h1
      · rw [List.mem_singleton] at h1
        subst h1
        exact isDig_of (by omega)
theorem dec_nodot (n : Nat) : (46 : UInt8) ∉ dec n := fun h => by
  have := dec_digs n _ h
  rw [dot_dig] at this
  cases this
/-- what digits are as a number -/
def valD (l : List UInt8) : Nat := l.foldl (fun n c => n * 10 + (c.toNat - 48)) 0
theorem valD_snoc (l : List UInt8) (c : UInt8) : valD (l ++ [c]) = valD l * 10 + (c.toNat - 48) := by simp [valD, List.foldl_append]
theorem valD_dec (n : Nat) : valD (dec n) = n := by
  induction n using Nat.strongRecOn with
  | _ n ih =>
    by_cases h : n < 10
    · rw [dec_small h]
      show 0 * 10 + _ = _
      rw [u8_lt (by omega)]
      omega
    · rw [dec_big h, valD_snoc, ih _ (by omega), u8_lt (by omega)]
      omega
theorem dec_inj {m n : Nat} (h : dec m = dec n) : m = n := by rw [← valD_dec m, h, valD_dec]

/-! four numbers with dots between -/
theorem split_dot : ∀ (x y r s : List UInt8), (46 : UInt8) ∉ x → (46 : UInt8) ∉ y → x ++ 46 :: r = y ++ 46 :: s → x = y ∧ r = s
  | [], [], r, s, _, _, h => ⟨rfl, by simpa using h⟩
  | [], c :: y, r, s, _, hy, h => by
    simp only [List.nil_append, List.cons_append, List.cons.injEq] at h
    exact absurd (by rw [← h.1]; simp) hy
  | c :: x, [], r, s, hx, _, h => by
    simp only [List.nil_append, List.cons_append, List.cons.injEq] at h
    exact absurd (by rw [h.1]; simp) hx
  | c :: x, d :: y, r, s, hx, hy, h => by
    simp only [List.cons_append, List.cons.injEq] at h
    obtain ⟨h1, h2⟩ := split_dot x y r s (fun h => hx (List.mem_cons_of_mem _ h)) (fun h => hy (List.mem_cons_of_mem _ h)) h.2
    exact ⟨by rw [h.1, h1], h2⟩
def txt4 (b0 b1 b2 b3 : Nat) : List UInt8 := dec b0 ++ 46 :: (dec b1 ++ 46 :: (dec b2 ++ 46 :: dec b3))
def byt (a k : Nat) : Nat := a / 256 ^ (3 - k) % 256
def txt (a : Nat) : List UInt8 := txt4 (byt a 0) (byt a 1) (byt a 2) (byt a 3)
theorem byt_lt (a k : Nat) : byt a k < 256 := Nat.mod_lt _ (by omega)
theorem byt0 (a : Nat) : byt a 0 = a / 16777216 % 256 := rfl
theorem byt1 (a : Nat) : byt a 1 = a / 65536 % 256 := rfl
theorem byt2 (a : Nat) : byt a 2 = a / 256 % 256 := rfl
theorem byt3 (a : Nat) : byt a 3 = a % 256 := by simp [byt]
/-- the text of the first k numbers, each but the last with a dot behind it -/
def pre (a : Nat) : Nat → List UInt8
  | 0 => []
  | k + 1 => pre a k ++ dec (byt a k) ++ (if k < 3 then [46] else [])
theorem pre_four (a : Nat) : pre a 4 = txt a := by simp [pre, txt, txt4]
theorem pre_le (a k : Nat) : (pre a k).length ≤ 4 * k := by
  induction k with
  | zero => simp [pre]
  | succ k ih =>
    have := dec_le3 (byt a k) (byt_lt a k)
    rw [pre]
    split <;> simp <;> omega
theorem txt_le (a : Nat) : (txt a).length ≤ 15 := by
  have h0 := dec_le3 (byt a 0) (byt_lt a 0)
  have h1 := dec_le3 (byt a 1) (byt_lt a 1)
  have h2 := dec_le3 (byt a 2) (byt_lt a 2)
  have h3 := dec_le3 (byt a 3) (byt_lt a 3)
  simp only [txt, txt4, List.length_append, List.length_cons]
  omega
/-- the reference's way: from the lowest number on -/
def post (a : Nat) : Nat → List UInt8
  | 0 => []
  | k + 1 => dec (a / 256 ^ k % 256) ++ (if k = 0 then post a k else 46 :: post a k)
theorem post_four (a : Nat) : post a 4 = txt a := by simp [post, txt, txt4, byt]

/-! what a text is parsed to -/
def st (A n : Nat) : Nat := (A * 256 + n) % 4294967296
/-- the rest of a text, from a label on (0: a number begins, 1: one goes on, 2: one has ended), with what was parsed ahead -/
def pr : Nat → List UInt8 → Nat → Nat → Nat → Option Nat
  | s, [], A, n, e => if s = 0 then none else if e + 1 = 4 then some (st A n) else none
  | s, c :: r, A, n, e =>
    if s = 0 then (if isDig c then (if c.toNat = 48 then pr 2 r A 0 e else pr 1 r A (c.toNat - 48) e) else none)
    else if s = 1 ∧ isDig c then (if 10 * n + (c.toNat - 48) ≤ 255 then pr 1 r A (10 * n + (c.toNat - 48)) e else none)
    else if c.toNat = 46 then pr 0 r (st A n) n (e + 1) else none
def parseN (l : List UInt8) : Option Nat := pr 0 l 0 0 0

theorem pr_first_no (r : List UInt8) (A n e : Nat) (h : ∀ c r', r = c :: r' → isDig c = false) : pr 0 r A n e = none := by
  cases r with
  | nil => simp [pr]
  | cons c r => simp [pr, h c r rfl]
theorem pr_first_zero (c : UInt8) (r : List UInt8) (A n e : Nat) (h : c.toNat = 48) : pr 0 (c :: r) A n e = pr 2 r A 0 e := by
  have : isDig c = true := by rw [isDig_iff]; omega
  simp [pr, this, h]
theorem pr_first_more (c : UInt8) (r : List UInt8) (A n e : Nat) (h1 : isDig c = true) (h : c.toNat ≠ 48) : pr 0 (c :: r) A n e = pr 1 r A (c.toNat - 48) e := by
  simp [pr, h1, h]
theorem pr_more_dig (c : UInt8) (r : List UInt8) (A n e : Nat) (h1 : isDig c = true) (h : 10 * n + (c.toNat - 48) ≤ 255) : pr 1 (c :: r) A n e = pr 1 r A (10 * n + (c.toNat - 48)) e := by
  simp [pr, h1, h]
theorem pr_more_no (c : UInt8) (r : List UInt8) (A n e : Nat) (h1 : isDig c = true) (h : ¬ 10 * n + (c.toNat - 48) ≤ 255) : pr 1 (c :: r) A n e = none := by
  simp only [pr]
  rw [if_neg (by omega), if_pos (by simp [h1]), if_neg h]
theorem pr_more_end (r : List UInt8) (A n e : Nat) (h : ∀ c r', r = c :: r' → isDig c = false) : pr 1 r A n e = pr 2 r A n e := by
  cases r with
  | nil => simp [pr]
  | cons c r => simp [pr, h c r rfl]
theorem pr_end_dot (c : UInt8) (r : List UInt8) (A n e : Nat) (h : c.toNat = 46) : pr 2 (c :: r) A n e = pr 0 r (st A n) n (e + 1) := by simp [pr, h]
theorem pr_end_other (c : UInt8) (r : List UInt8) (A n e : Nat) (h : c.toNat ≠ 46) : pr 2 (c :: r) A n e = none := by simp [pr, h]
theorem pr_end_ok (A n e : Nat) (h : e + 1 = 4) : pr 2 [] A n e = some (st A n) := by simp [pr, h]
theorem pr_end_few (A n e : Nat) (h : e + 1 ≠ 4) : pr 2 [] A n e = none := by simp only [pr]; rw [if_neg (by omega), if_neg h]

theorem nodig_dot (r : List UInt8) : ∀ c r', (46 :: r) = c :: r' → isDig c = false := by
  intro c r' h
  injection h with h1 h2
  rw [← h1]
  exact dot_dig
theorem nodig_nil : ∀ (c : UInt8) r', ([] : List UInt8) = c :: r' → isDig c = false := by
  intro c r' h
  cases h
/-- a number below 256 is read whole, if no digit follows -/
theorem pr_dec (m : Nat) (hm : m < 256) (tl : List UInt8) (A n e : Nat) (ht : ∀ c r', tl = c :: r' → isDig c = false) : pr 0 (dec m ++ tl) A n e = pr 2 tl A m e := by
  rcases dec_cases m hm with ⟨h, eq⟩ | ⟨h, h2, eq⟩ | ⟨h, eq⟩
  · rw [eq]
    have hc : (UInt8.ofNat (48 + m)).toNat = 48 + m := u8_lt (by omega)
    by_cases h0 : m = 0
    · subst h0
      exact pr_first_zero _ _ _ _ _ hc
    · show pr 0 (_ :: tl) A n e = _
      rw [pr_first_more _ _ _ _ _ (isDig_of h) (by omega), pr_more_end _ _ _ _ ht, hc]
      congr 1
      omega
  · rw [eq]
    have hc : (UInt8.ofNat (48 + m / 10)).toNat = 48 + m / 10 := u8_lt (by omega)
    have hd : (UInt8.ofNat (48 + m % 10)).toNat = 48 + m % 10 := u8_lt (by omega)
    show pr 0 (_ :: _ :: tl) A n e = _
    rw [pr_first_more _ _ _ _ _ (isDig_of (by omega)) (by omega), pr_more_dig _ _ _ _ _ (isDig_of (by omega)) (by omega), pr_more_end _ _ _ _ ht, hc, hd]
    congr 1
    omega
  · rw [eq]
    have hc : (UInt8.ofNat (48 + m / 100)).toNat = 48 + m / 100 := u8_lt (by omega)
    have hd : (UInt8.ofNat (48 + m / 10 % 10)).toNat = 48 + m / 10 % 10 := u8_lt (by omega)
    have hf : (UInt8.ofNat (48 + m % 10)).toNat = 48 + m % 10 := u8_lt (by omega)
    show pr 0 (_ :: _ :: _ :: tl) A n e = _
    rw [pr_first_more _ _ _ _ _ (isDig_of (by omega)) (by omega), pr_more_dig _ _ _ _ _ (isDig_of (by omega)) (by omega), pr_more_dig _ _ _ _ _ (isDig_of (by omega)) (by omega), pr_more_end _ _ _ _ ht, hc, hd, hf]
    congr 1
    omega
theorem st_four (b0 b1 b2 b3 : Nat) (h0 : b0 < 256) (h1 : b1 < 256) (h2 : b2 < 256) (h3 : b3 < 256) : st (st (st (st 0 b0) b1) b2) b3 = b0 * 16777216 + b1 * 65536 + b2 * 256 + b3 := by
  unfold st
  omega
theorem parse_txt4 (b0 b1 b2 b3 : Nat) (h0 : b0 < 256) (h1 : b1 < 256) (h2 : b2 < 256) (h3 : b3 < 256) : parseN (txt4 b0 b1 b2 b3) = some (b0 * 16777216 + b1 * 65536 + b2 * 256 + b3) := by
  have e := pr_dec b3 h3 [] (st (st (st 0 b0) b1) b2) b2 3 nodig_nil
  rw [List.append_nil] at e
  rw [parseN, txt4, pr_dec _ h0 _ _ _ _ (nodig_dot _), pr_end_dot _ _ _ _ _ rfl, pr_dec _ h1 _ _ _ _ (nodig_dot _), pr_end_dot _ _ _ _ _ rfl, pr_dec _ h2 _ _ _ _ (nodig_dot _), pr_end_dot _ _ _ _ _ rfl, e, pr_end_ok _ _ _ rfl, st_four _ _ _ _ h0 h1 h2 h3]
theorem parse_txt (a : Nat) (h : a < 4294967296) : parseN (txt a) = some a := by
  rw [txt, parse_txt4 _ _ _ _ (byt_lt _ _) (byt_lt _ _) (byt_lt _ _) (byt_lt _ _), byt0, byt1, byt2, byt3]
  congr 1
  omega
/-- what begins as a number does: the number, and what is behind it -/
theorem pr_num (r : List UInt8) (A n e a : Nat) (h : pr 0 r A n e = some a) : ∃ m tl, m < 256 ∧ r = dec m ++ tl ∧ pr 2 tl A m e = some a := by
  cases r with
  | nil => simp [pr] at h
  | cons c r =>
    by_cases hd : isDig c = true
    · have hc := (isDig_iff c).1 hd
      by_cases h0 : c.toNat = 48
      · rw [pr_first_zero _ _ _ _ _ h0] at h
        refine ⟨0, r, by omega, ?_, h⟩
        rw [dec_small (by omega), u8_of h0]
        rfl
      · rw [pr_first_more _ _ _ _ _ hd h0] at h
        obtain ⟨v, hv⟩ : ∃ v, c.toNat = 48 + v := ⟨c.toNat - 48, by omega⟩
        rw [hv, Nat.add_sub_cancel_left] at h
        have hcv := u8_of hv
        by_cases hr : ∃ d r', r = d :: r' ∧ isDig d = true
        · obtain ⟨d, r', rfl, hdd⟩ := hr
          have hd2 := (isDig_iff d).1 hdd
          obtain ⟨u, hu⟩ : ∃ u, d.toNat = 48 + u := ⟨d.toNat - 48, by omega⟩
          have hdu := u8_of hu
          rw [pr_more_dig _ _ _ _ _ hdd (by omega), hu, Nat.add_sub_cancel_left] at h
          by_cases hr2 : ∃ f r2, r' = f :: r2 ∧ isDig f = true
          · obtain ⟨f, r2, rfl, hff⟩ := hr2
            have hf2 := (isDig_iff f).1 hff
            obtain ⟨t, ht⟩ : ∃ t, f.toNat = 48 + t := ⟨f.toNat - 48, by omega⟩
            have hft := u8_of ht
            by_cases hle : 10 * (10 * v + u) + (f.toNat - 48) ≤ 255
            · rw [pr_more_dig _ _ _ _ _ hff hle, ht, Nat.add_sub_cancel_left] at h
              rw [ht, Nat.add_sub_cancel_left] at hle
              by_cases hr3 : ∃ g r3, r2 = g :: r3 ∧ isDig g = true
              · obtain ⟨g, r3, rfl, hgg⟩ := hr3
                rw [pr_more_no _ _ _ _ _ hgg (by omega)] at h
                cases h
              · rw [pr_more_end _ _ _ _ (fun g r3 hg => by cases hb : isDig g with | false => rfl | true => exact absurd ⟨g, r3, hg, hb⟩ hr3)] at h
                refine ⟨10 * (10 * v + u) + t, r2, by omega, ?_, h⟩
                rw [dec_three (by omega) (by omega), hcv, hdu, hft]
                rw [show (10 * (10 * v + u) + t) / 100 = v by omega, show (10 * (10 * v + u) + t) / 10 % 10 = u by omega, show (10 * (10 * v + u) + t) % 10 = t by omega]
                rfl
            · rw [pr_more_no _ _ _ _ _ hff hle] at h
              cases h
          · rw [pr_more_end _ _ _ _ (fun g r3 hg => by cases hb : isDig g with | false => rfl | true => exact absurd ⟨g, r3, hg, hb⟩ hr2)] at h
            refine ⟨10 * v + u, r', by omega, ?_, h⟩
            rw [show dec (10 * v + u) = _ from decDigits_two (by omega) (by omega), hcv, hdu, show (10 * v + u) / 10 = v by omega, show (10 * v + u) % 10 = u by omega]
            rfl
        · rw [pr_more_end _ _ _ _ (fun g r3 hg => by cases hb : isDig g with | false => rfl | true => exact absurd ⟨g, r3, hg, hb⟩ hr)] at h
          refine ⟨v, r, by omega, ?_, h⟩
          rw [dec_small (by omega), hcv]
          rfl
    · rw [pr_first_no _ _ _ _ (fun c' r' hc => by injection hc with h1 h2; subst h1; simpa using hd)] at h
      cases h
/-- behind a number: the end, behind four of them; or a dot, and another one -/
theorem pr_tail (tl : List UInt8) (A n e a : Nat) (h : pr 2 tl A n e = some a) : (tl = [] ∧ e = 3 ∧ a = st A n) ∨ ∃ r, tl = 46 :: r ∧ pr 0 r (st A n) n (e + 1) = some a := by
  cases tl with
  | nil =>
    by_cases h4 : e + 1 = 4
    · rw [pr_end_ok _ _ _ h4] at h
      injection h with h
      exact .inl ⟨rfl, by omega, h.symm⟩
    · rw [pr_end_few _ _ _ h4] at h
      cases h
  | cons c r =>
    by_cases h4 : c.toNat = 46
    · rw [pr_end_dot _ _ _ _ _ h4] at h
      refine .inr ⟨r, ?_, h⟩
      rw [u8_of h4]
      rfl
    · rw [pr_end_other _ _ _ _ _ h4] at h
      cases h
theorem pr_late : ∀ (k : Nat) (r : List UInt8), r.length ≤ k → ∀ A n e, 4 ≤ e → pr 0 r A n e = none
  | k, r, hk, A, n, e, he => by
    cases hp : pr 0 r A n e with
    | none => rfl
    | some a =>
      obtain ⟨m, tl, hm, rfl, h2⟩ := pr_num _ _ _ _ _ hp
      rcases pr_tail _ _ _ _ _ h2 with ⟨_, h3, _⟩ | ⟨r, rfl, h3⟩
      · omega
      · have hl := dec_pos m
        simp only [List.length_append, List.length_cons] at hk
        cases k with
        | zero => omega
        | succ k =>
          rw [pr_late k r (by omega) _ _ _ (by omega)] at h3
          cases h3
theorem parse_some (l : List UInt8) (a : Nat) (h : parseN l = some a) : a < 4294967296 ∧ l = txt a := by
  obtain ⟨b0, t0, h0, rfl, g0⟩ := pr_num _ _ _ _ _ h
  rcases pr_tail _ _ _ _ _ g0 with ⟨_, h3, _⟩ | ⟨r0, rfl, k0⟩
  · omega
  obtain ⟨b1, t1, h1, rfl, g1⟩ := pr_num _ _ _ _ _ k0
  rcases pr_tail _ _ _ _ _ g1 with ⟨_, h3, _⟩ | ⟨r1, rfl, k1⟩
  · omega
  obtain ⟨b2, t2, h2, rfl, g2⟩ := pr_num _ _ _ _ _ k1
  rcases pr_tail _ _ _ _ _ g2 with ⟨_, h3, _⟩ | ⟨r2, rfl, k2⟩
  · omega
  obtain ⟨b3, t3, h3, rfl, g3⟩ := pr_num _ _ _ _ _ k2
  rcases pr_tail _ _ _ _ _ g3 with ⟨rfl, _, e⟩ | ⟨r3, rfl, k3⟩
  · rw [st_four _ _ _ _ h0 h1 h2 h3] at e
    refine ⟨by omega, ?_⟩
    rw [List.append_nil, txt, byt0, byt1, byt2, byt3, e]
    rw [show (b0 * 16777216 + b1 * 65536 + b2 * 256 + b3) / 16777216 % 256 = b0 by omega, show (b0 * 16777216 + b1 * 65536 + b2 * 256 + b3) / 65536 % 256 = b1 by omega,
      show (b0 * 16777216 + b1 * 65536 + b2 * 256 + b3) / 256 % 256 = b2 by omega, show (b0 * 16777216 + b1 * 65536 + b2 * 256 + b3) % 256 = b3 by omega]
    rfl
  · rw [pr_late _ _ (Nat.le_refl _) _ _ _ (by omega)] at k3
    cases k3
theorem txt_inj {a b : Nat} (ha : a < 4294967296) (hb : b < 4294967296) (h : txt a = txt b) : a = b := by
  have := parse_txt a ha
  rw [h, parse_txt b hb] at this
  injection this with this
  exact this.symm
def pa (l : List UInt8) : Nat := (parseN l).getD 0
def pe (l : List UInt8) : Int := if (parseN l).isSome then 0 else 7
theorem pa_lt (l : List UInt8) : pa l < 4294967296 := by
  unfold pa
  cases h : parseN l with
  | none => simp
  | some a => exact (parse_some l a h).1
theorem pa_txt (a : Nat) (h : a < 4294967296) : pa (txt a) = a := by rw [pa, parse_txt a h]; rfl
theorem pe_txt (a : Nat) (h : a < 4294967296) : pe (txt a) = 0 := by rw [pe, parse_txt a h]; rfl
theorem pe_cases (l : List UInt8) : (pe l = 0 ∧ txt (pa l) = l) ∨ (pe l = 7 ∧ pa l = 0) := by
  unfold pe pa
  cases h : parseN l with
  | none => exact .inr ⟨rfl, rfl⟩
  | some a => exact .inl ⟨rfl, (parse_some l a h).2.symm⟩
theorem pe_of {l : List UInt8} (h : pe l = 0) : ∃ a, a < 4294967296 ∧ l = txt a := by
  rcases pe_cases l with ⟨_, h2⟩ | ⟨h2, _⟩
  · exact ⟨pa l, pa_lt l, h2.symm⟩
  · omega
theorem pe_no {l : List UInt8} (h : ∀ a, l ≠ txt a) : pe l = 7 := by
  rcases pe_cases l with ⟨_, h2⟩ | ⟨h2, _⟩
  · exact absurd h2.symm (h _)
  · exact h2

/-! texts that are none -/
def dots (l : List UInt8) : Nat := l.count 46
theorem dots_dec (n : Nat) : dots (dec n) = 0 := List.count_eq_zero.2 (dec_nodot n)
theorem dots_txt4 (a b c d : Nat) : dots (txt4 a b c d) = 3 := by
  have h0 := dots_dec a
  have h1 := dots_dec b
  have h2 := dots_dec c
  have h3 := dots_dec d
  unfold dots at *
  simp only [txt4, List.count_append, List.count_cons_self, h0, h1, h2, h3]
theorem txt4_split {a b c a' b' c' d' : Nat} {x : List UInt8} (h : dec a ++ 46 :: (dec b ++ 46 :: (dec c ++ 46 :: x)) = txt4 a' b' c' d') : a = a' ∧ b = b' ∧ c = c' ∧ x = dec d' := by
  obtain ⟨e0, h⟩ := split_dot _ _ _ _ (dec_nodot _) (dec_nodot _) h
  obtain ⟨e1, h⟩ := split_dot _ _ _ _ (dec_nodot _) (dec_nodot _) h
  obtain ⟨e2, h⟩ := split_dot _ _ _ _ (dec_nodot _) (dec_nodot _) h
  exact ⟨dec_inj e0, dec_inj e1, dec_inj e2, h⟩
/-- with a number above 255 -/
theorem pe_high (a b c d : Nat) (h : 256 ≤ a ∨ 256 ≤ b ∨ 256 ≤ c ∨ 256 ≤ d) : pe (txt4 a b c d) = 7 := pe_no fun x hx => by
  obtain ⟨e0, e1, e2, e3⟩ := txt4_split (a := a) (b := b) (c := c) (x := dec d) hx
  have e3 := dec_inj e3
  have h0 := byt_lt x 0
  have h1 := byt_lt x 1
  have h2 := byt_lt x 2
  have h3 := byt_lt x 3
  omega
/-- with other than three dots -/
theorem pe_dots (l : List UInt8) (h : dots l ≠ 3) : pe l = 7 := pe_no fun x hx => h (by rw [hx]; exact dots_txt4 _ _ _ _)
/-- with anything behind it that is no digit -/
theorem pe_behind (a : Nat) (c : UInt8) (r : List UInt8) (h : isDig c = false) : pe (txt a ++ c :: r) = 7 := pe_no fun x hx => by
  have e : txt a ++ c :: r = dec (byt a 0) ++ 46 :: (dec (byt a 1) ++ 46 :: (dec (byt a 2) ++ 46 :: (dec (byt a 3) ++ c :: r))) := by simp [txt, txt4]
  rw [e] at hx
  obtain ⟨_, _, _, e3⟩ := txt4_split hx
  have := dec_digs _ c (by rw [← e3]; simp)
  rw [h] at this
  cases this
/-- with a nought ahead -/
theorem pe_nought (a : Nat) : pe (48 :: txt a) = 7 := pe_no fun x hx => by
  have e : (48 :: txt a : List UInt8) = (48 :: dec (byt a 0)) ++ 46 :: (dec (byt a 1) ++ 46 :: (dec (byt a 2) ++ 46 :: dec (byt a 3))) := by simp [txt, txt4]
  rw [e] at hx
  obtain ⟨e0, _⟩ := split_dot _ _ _ _ (by
    intro h
    rcases List.mem_cons.1 h with h | h
    · cases h
    · exact dec_nodot _ h) (dec_nodot _) hx
  have hp := dec_pos (byt a 0)
  have hl := byt_lt x 0
  rcases dec_cases (byt x 0) hl with ⟨h1, e1⟩ | ⟨h1, h2, e1⟩ | ⟨h1, e1⟩
  · rw [e1] at e0
    injection e0 with _ e0
    rw [e0] at hp
    simp at hp
  · rw [e1] at e0
    injection e0 with e0 _
    have := congrArg UInt8.toNat e0
    rw [u8_lt (by omega)] at this
    have h48 : (48 : UInt8).toNat = 48 := rfl
    omega
  · rw [e1] at e0
    injection e0 with e0 _
    have := congrArg UInt8.toNat e0
    rw [u8_lt (by omega)] at this
    have h48 : (48 : UInt8).toNat = 48 := rfl
    omega

/-! the reference's way of parsing -/
def rv : List UInt8 → Nat → Nat → Nat
  | [], a, n => st a n
  | c :: r, a, n => if c.toNat = 46 then rv r (st a n) 0 else rv r a ((n * 10 + c.toNat + 4294967248) % 4294967296)
theorem rv_dot (c : UInt8) (r : List UInt8) (a n : Nat) (h : c.toNat = 46) : rv (c :: r) a n = rv r (st a n) 0 := by simp [rv, h]
theorem rv_other (c : UInt8) (r : List UInt8) (a n : Nat) (h : c.toNat ≠ 46) : rv (c :: r) a n = rv r a ((n * 10 + c.toNat + 4294967248) % 4294967296) := by simp [rv, h]
theorem rv_dig (v : Nat) (r : List UInt8) (a n : Nat) (hv : v < 10) (hn : n < 1000) : rv (UInt8.ofNat (48 + v) :: r) a n = rv r a (n * 10 + v) := by
  have hc : (UInt8.ofNat (48 + v)).toNat = 48 + v := u8_lt (by omega)
  have e : (n * 10 + (48 + v) + 4294967248) % 4294967296 = n * 10 + v := by omega
  rw [rv_other _ _ _ _ (by omega), hc, e]
theorem rv_dec (m : Nat) (hm : m < 256) (r : List UInt8) (a : Nat) : rv (dec m ++ r) a 0 = rv r a m := by
  rcases dec_cases m hm with ⟨h, e⟩ | ⟨h, h2, e⟩ | ⟨h, e⟩
  · rw [e]
    show rv (_ :: r) a 0 = _
    rw [rv_dig _ _ _ _ h (by omega)]
    congr 1
    omega
  · rw [e]
    show rv (_ :: _ :: r) a 0 = _
    rw [rv_dig _ _ _ _ (by omega) (by omega), rv_dig _ _ _ _ (by omega) (by omega)]
    congr 1
    omega
  · rw [e]
    show rv (_ :: _ :: _ :: r) a 0 = _
    rw [rv_dig _ _ _ _ (by omega) (by omega), rv_dig _ _ _ _ (by omega) (by omega), rv_dig _ _ _ _ (by omega) (by omega)]
    congr 1
    omega
theorem rv_txt (a : Nat) (h : a < 4294967296) : rv (txt a) 0 0 = a := by
  have e := rv_dec (byt a 3) (byt_lt a 3) [] (st (st (st 0 (byt a 0)) (byt a 1)) (byt a 2))
  rw [List.append_nil] at e
  rw [txt, txt4, rv_dec _ (byt_lt _ _), rv_dot _ _ _ _ rfl, rv_dec _ (byt_lt _ _), rv_dot _ _ _ _ rfl, rv_dec _ (byt_lt _ _), rv_dot _ _ _ _ rfl, e]
  show st _ _ = _
  rw [st_four _ _ _ _ (byt_lt _ _) (byt_lt _ _) (byt_lt _ _) (byt_lt _ _), byt0, byt1, byt2, byt3]
  omega
/-- the number that the reference takes a text for -/
def rn (l : List UInt8) : Nat := if l.length < 16 then rv l 0 0 else 0
theorem st_lt (a n : Nat) : st a n < 4294967296 := Nat.mod_lt _ (by omega)
theorem rv_lt : ∀ (l : List UInt8) (a n : Nat), rv l a n < 4294967296
  | [], a, n => st_lt a n
  | c :: r, a, n => by
    rw [rv]
    split
    · exact rv_lt _ _ _
    · exact rv_lt _ _ _
theorem rn_lt (l : List UInt8) : rn l < 4294967296 := by
  unfold rn
  split
  · exact rv_lt _ _ _
  · omega
theorem rn_yes {l : List UInt8} (h : txt (rn l) = l) : pa l = rn l ∧ pe l = 0 := by
  have h1 := pa_txt (rn l) (rn_lt l)
  have h2 := pe_txt (rn l) (rn_lt l)
  rw [h] at h1 h2
  exact ⟨h1, h2⟩
theorem rn_no {l : List UInt8} (h : txt (rn l) ≠ l) : pa l = 0 ∧ pe l = 7 := by
  rcases pe_cases l with ⟨h1, h2⟩ | ⟨h1, h2⟩
  · have hl : l.length < 16 := by have := txt_le (pa l); rw [h2] at this; omega
    have h3 : rn l = pa l := by
      rw [rn, if_pos hl]
      have := rv_txt (pa l) (pa_lt l)
      rw [h2] at this
      exact this
    rw [h3] at h
    exact absurd h2 h
  · exact ⟨h2, h1⟩
end Go.Proofs.YtohggpaffmcfoaaDoor
end
section
namespace Go.Proofs.YtohggpaffmcfoaaDoor
open Go.Lib
set_option linter.unusedVariables false
set_option maxRecDepth 100000
set_option linter.unusedSimpArgs false

/-! first bits -/
def mskN (k : Nat) : Nat := 4294967296 - 2 ^ (32 - k)
def loN (a k : Nat) : Nat := a / 2 ^ (32 - k) * 2 ^ (32 - k)
def hiN (a k : Nat) : Nat := loN a k + (2 ^ (32 - k) - 1)
def holdB (a k b : Nat) : Bool := decide (loN a k = loN b k)
def cl (n : Int) : Nat := (min (max n 0) 32).toNat
def mayI (a : Nat) (n : Int) : Int := if n < 0 ∨ 32 < n then 1 else if loN a (cl n) = a then 0 else 8
def cmpI (a : Nat) (m : Int) (b : Nat) (n : Int) : Int := if a < b ∨ (a = b ∧ m < n) then -1 else if a = b ∧ m = n then 0 else 1
theorem cl_le (n : Int) : cl n ≤ 32 := by unfold cl; omega
theorem cl_nat (k : Nat) (h : k ≤ 32) : cl (k : Int) = k := by unfold cl; omega
theorem pw_pos (k : Nat) : 0 < 2 ^ (32 - k) := Nat.pos_of_ne_zero (by simp)
theorem pw_le (k : Nat) : 2 ^ (32 - k) ≤ 4294967296 := Nat.le_trans (Nat.pow_le_pow_right (by omega) (show 32 - k ≤ 32 by omega)) (by decide)
theorem pw_half (k : Nat) (h : k < 32) : 2 ^ (32 - k) = 2 ^ (32 - (k + 1)) + 2 ^ (32 - (k + 1)) := by
  rw [show 32 - k = (32 - (k + 1)) + 1 by omega, Nat.pow_succ]
  omega
theorem lo_dvd (a k : Nat) : 2 ^ (32 - k) ∣ loN a k := Nat.dvd_mul_left _ _
theorem lo_le (a k : Nat) : loN a k ≤ a := Nat.div_mul_le_self _ _
theorem lo_gt (a k : Nat) : a < loN a k + 2 ^ (32 - k) := by
  have h := Nat.lt_mul_div_succ a (pw_pos k)
  rw [Nat.mul_add, Nat.mul_one, Nat.mul_comm] at h
  exact h
theorem lo_of_dvd {a k : Nat} (h : 2 ^ (32 - k) ∣ a) : loN a k = a := Nat.div_mul_cancel h
theorem lo_lo (a k : Nat) : loN (loN a k) k = loN a k := lo_of_dvd (lo_dvd a k)
/-- what lies between is a multiple, and below the next one -/
theorem lo_unique {a k q : Nat} (hd : 2 ^ (32 - k) ∣ q) (h1 : q ≤ a) (h2 : a < q + 2 ^ (32 - k)) : loN a k = q := by
  obtain ⟨c, rfl⟩ := hd
  unfold loN
  have : a / 2 ^ (32 - k) = c := by
    apply Nat.div_eq_of_lt_le
    · rw [Nat.mul_comm]; exact h1
    · rw [Nat.mul_comm, Nat.mul_add, Nat.mul_one]; exact h2
  rw [this, Nat.mul_comm]
theorem hold_iff (a k b : Nat) : holdB a k b = true ↔ loN a k ≤ b ∧ b < loN a k + 2 ^ (32 - k) := by
  unfold holdB
  rw [decide_eq_true_iff]
  constructor
  · intro h
    rw [h]
    exact ⟨lo_le b k, lo_gt b k⟩
  · rintro ⟨h1, h2⟩
    exact (lo_unique (lo_dvd a k) h1 h2).symm
theorem hold_lo (a k b : Nat) : holdB (loN a k) k b = holdB a k b := by unfold holdB; rw [lo_lo]
theorem hold_comm (a k b : Nat) : holdB b k a = holdB a k b := by unfold holdB; rw [Bool.eq_iff_iff]; simp [eq_comm]
theorem dvd_pow32 (k : Nat) : 2 ^ (32 - k) ∣ 4294967296 := by
  rw [show (4294967296 : Nat) = 2 ^ 32 from rfl]
  exact Nat.pow_dvd_pow 2 (by omega)
theorem lo_top (a k : Nat) (ha : a < 4294967296) : loN a k + 2 ^ (32 - k) ≤ 4294967296 := by
  obtain ⟨c, hc⟩ := lo_dvd a k
  obtain ⟨d, hd⟩ := dvd_pow32 k
  have h1 := lo_le a k
  have hp := pw_pos k
  generalize 2 ^ (32 - k) = M at *
  rw [hc, hd]
  have h2 : M * c < M * d := by omega
  have h3 : c < d := Nat.lt_of_mul_lt_mul_left h2
  rw [show M * c + M = M * (c + 1) by rw [Nat.mul_add, Nat.mul_one]]
  exact Nat.mul_le_mul_left _ h3
theorem lo_lt (a k : Nat) (ha : a < 4294967296) : loN a k < 4294967296 := Nat.lt_of_le_of_lt (lo_le a k) ha
theorem hi_lt (a k : Nat) (ha : a < 4294967296) : hiN a k < 4294967296 := by
  have h1 := lo_top a k ha
  have h2 := pw_pos k
  unfold hiN
  omega
theorem msk_le (k : Nat) : mskN k ≤ 4294967295 := by
  have := pw_pos k
  unfold mskN
  omega
theorem shl_msk (t k : Nat) (h : t = 32 - k) : 4294967295 * 2 ^ t % 4294967296 = mskN k := by
  subst h
  have h1 := pw_pos k
  have h2 := pw_le k
  unfold mskN
  generalize 2 ^ (32 - k) = M at *
  have e : 4294967295 * M = (4294967296 - M) + 4294967296 * (M - 1) := by omega
  rw [e, Nat.add_mul_mod_self_left]
  exact Nat.mod_eq_of_lt (by omega)
theorem msk_shift (k : Nat) (hk : k ≤ 32) : mskN k = (2 ^ k - 1) <<< (32 - k) := by
  have e : 2 ^ k * 2 ^ (32 - k) = 4294967296 := by rw [← Nat.pow_add, show k + (32 - k) = 32 by omega]
  rw [Nat.shiftLeft_eq, Nat.sub_mul, e, mskN, Nat.one_mul]
theorem lo_shift (a k : Nat) : loN a k = (a >>> (32 - k)) <<< (32 - k) := by
  rw [Nat.shiftLeft_eq, Nat.shiftRight_eq_div_pow]
  rfl
theorem and_msk (a k : Nat) (ha : a < 4294967296) (hk : k ≤ 32) : a &&& mskN k = loN a k := by
  rw [msk_shift k hk, lo_shift]
  apply Nat.eq_of_testBit_eq
  intro i
  rw [Nat.testBit_and, Nat.testBit_shiftLeft, Nat.testBit_shiftLeft, Nat.testBit_shiftRight, Nat.testBit_two_pow_sub_one]
  by_cases h1 : 32 - k ≤ i
  · rw [show 32 - k + (i - (32 - k)) = i by omega]
    by_cases h2 : i < 32
    · simp [h1, show i - (32 - k) < k by omega]
    · have : a.testBit i = false := Nat.testBit_lt_two_pow (Nat.lt_of_lt_of_le ha (Nat.le_trans (by decide : 4294967296 ≤ 2 ^ 32) (Nat.pow_le_pow_right (by omega) (by omega))))
      simp [this]
  · simp [h1]
theorem or_msk (a k : Nat) (ha : a < 4294967296) : loN a k ||| (4294967295 - mskN k) = hiN a k := by
  have h1 := pw_pos k
  have h2 := pw_le k
  have e : 4294967295 - mskN k = 2 ^ (32 - k) - 1 := by unfold mskN; omega
  rw [e, hiN]
  have h3 : loN a k = 2 ^ (32 - k) * (a / 2 ^ (32 - k)) := Nat.mul_comm _ _
  rw [h3]
  exact (Nat.two_pow_add_eq_or_of_lt (by omega) _).symm
theorem xor_msk (k : Nat) (hk : k ≤ 32) : 4294967295 ^^^ mskN k = 4294967295 - mskN k := by
  have h1 := pw_pos k
  have h2 := pw_le k
  have e : 4294967295 - mskN k = 2 ^ (32 - k) - 1 := by unfold mskN; omega
  rw [e, msk_shift k hk, show (4294967295 : Nat) = 2 ^ 32 - 1 from rfl]
  apply Nat.eq_of_testBit_eq
  intro i
  rw [Nat.testBit_xor, Nat.testBit_shiftLeft, Nat.testBit_two_pow_sub_one, Nat.testBit_two_pow_sub_one, Nat.testBit_two_pow_sub_one]
  by_cases g : i < 32
  · by_cases g2 : 32 - k ≤ i
    · simp [g, g2, show i - (32 - k) < k by omega, show ¬ i < 32 - k by omega]
    · simp [g, g2, show i < 32 - k by omega]
  · simp [g, show ¬ i - (32 - k) < k by omega, show ¬ i < 32 - k by omega]
theorem msk_testBit (k i : Nat) (hk : k ≤ 32) (hi : i < 32) : (mskN k).testBit (31 - i) = decide (i < k) := by
  rw [msk_shift k hk, Nat.testBit_shiftLeft, Nat.testBit_two_pow_sub_one]
  by_cases h : i < k
  · simp [h, show 32 - k ≤ 31 - i by omega, show 31 - i - (32 - k) < k by omega]
  · simp [h, show ¬ 32 - k ≤ 31 - i by omega]
theorem lo_zero (a : Nat) (ha : a < 4294967296) : loN a 0 = 0 := by unfold loN; rw [Nat.sub_zero, Nat.div_eq_of_lt (by exact ha), Nat.zero_mul]
theorem lo_full (a : Nat) : loN a 32 = a := by simp [loN]
theorem hi_zero (a : Nat) (ha : a < 4294967296) : hiN a 0 = 4294967295 := by unfold hiN; rw [lo_zero a ha]
theorem hi_full (a : Nat) : hiN a 32 = a := by unfold hiN; rw [lo_full]; rfl
theorem may_in (a k : Nat) (hk : k ≤ 32) : mayI a (k : Int) = if loN a k = a then 0 else 8 := by
  unfold mayI
  rw [if_neg (by omega), cl_nat k hk]
theorem may_lo (a k : Nat) (hk : k ≤ 32) : mayI (loN a k) (k : Int) = 0 := by rw [may_in _ _ hk, if_pos (lo_lo a k)]

/-! nesting -/
theorem nest_one (p q M K : Nat) (hp : M ∣ p) (hq : M ∣ q) (hK : M ∣ K) : p + M ≤ q ∨ q + K ≤ p ∨ (q ≤ p ∧ p + M ≤ q + K) := by
  obtain ⟨u, rfl⟩ := hp
  obtain ⟨v, rfl⟩ := hq
  obtain ⟨c, rfl⟩ := hK
  rw [show M * u + M = M * (u + 1) by rw [Nat.mul_add, Nat.mul_one], ← Nat.mul_add]
  rcases Nat.lt_or_ge u v with h | h
  · exact .inl (Nat.mul_le_mul_left _ h)
  · rcases Nat.lt_or_ge u (v + c) with g | g
    · exact .inr (.inr ⟨Nat.mul_le_mul_left _ h, Nat.mul_le_mul_left _ g⟩)
    · exact .inr (.inl (Nat.mul_le_mul_left _ g))
/-- of two prefixes the longer one is in the shorter one, or apart -/
theorem nest (p q m k : Nat) (h : k ≤ m) (hp : loN p m = p) (hq : loN q k = q) : p + 2 ^ (32 - m) ≤ q ∨ q + 2 ^ (32 - k) ≤ p ∨ (q ≤ p ∧ p + 2 ^ (32 - m) ≤ q + 2 ^ (32 - k)) := by
  have hd : 2 ^ (32 - m) ∣ 2 ^ (32 - k) := Nat.pow_dvd_pow 2 (by omega)
  refine nest_one p q _ _ ?_ ?_ hd
  · rw [← hp]; exact lo_dvd p m
  · rw [← hq]; exact Nat.dvd_trans hd (lo_dvd q k)

/-! order -/
theorem cmp_lt {a b : Nat} (m n : Int) (h : a < b) : cmpI a m b n = -1 := by unfold cmpI; rw [if_pos (.inl h)]
theorem cmp_gt {a b : Nat} (m n : Int) (h : b < a) : cmpI a m b n = 1 := by unfold cmpI; rw [if_neg (by omega), if_neg (by omega)]
theorem cmp_eq_lt (a : Nat) {m n : Int} (h : m < n) : cmpI a m a n = -1 := by unfold cmpI; rw [if_pos (.inr ⟨rfl, h⟩)]
theorem cmp_eq_gt (a : Nat) {m n : Int} (h : n < m) : cmpI a m a n = 1 := by unfold cmpI; rw [if_neg (by omega), if_neg (by omega)]
theorem cmp_same (a : Nat) (m : Int) : cmpI a m a m = 0 := by unfold cmpI; rw [if_neg (by omega), if_pos ⟨rfl, rfl⟩]

/-! texts -/
theorem split_sep (c0 : UInt8) : ∀ (x y r s : List UInt8), c0 ∉ x → c0 ∉ y → x ++ c0 :: r = y ++ c0 :: s → x = y ∧ r = s
  | [], [], r, s, _, _, h => ⟨rfl, by simpa using h⟩
  | [], c :: y, r, s, _, hy, h => by
    simp only [List.nil_append, List.cons_append, List.cons.injEq] at h
    exact absurd (by rw [← h.1]; simp) hy
  | c :: x, [], r, s, hx, _, h => by
    simp only [List.nil_append, List.cons_append, List.cons.injEq] at h
    exact absurd (by rw [h.1]; simp) hx
  | c :: x, d :: y, r, s, hx, hy, h => by
    simp only [List.cons_append, List.cons.injEq] at h
    obtain ⟨h1, h2⟩ := split_sep c0 x y r s (fun h => hx (List.mem_cons_of_mem _ h)) (fun h => hy (List.mem_cons_of_mem _ h)) h.2
    exact ⟨by rw [h.1, h1], h2⟩
theorem dec_noslash (n : Nat) : (47 : UInt8) ∉ dec n := fun h => by
  have := dec_digs n _ h
  cases this
theorem txt_noslash (a : Nat) : (47 : UInt8) ∉ txt a := fun h => by
  have h0 := dec_noslash (byt a 0)
  have h1 := dec_noslash (byt a 1)
  have h2 := dec_noslash (byt a 2)
  have h3 := dec_noslash (byt a 3)
  simp only [txt, txt4, List.mem_append, List.mem_cons] at h
  rcases h with h | h | h | h | h | h | h
  · exact h0 h
  · cases h
  · exact h1 h
  · cases h
  · exact h2 h
  · cases h
  · exact h3 h
/-- ahead of the first slash; behind it -/
def headS (l : List UInt8) : List UInt8 := l.takeWhile fun c => decide (c ≠ 47)
def tailS (l : List UInt8) : List UInt8 := (l.dropWhile fun c => decide (c ≠ 47)).drop 1
theorem cut_at (x r : List UInt8) (h : (47 : UInt8) ∉ x) : headS (x ++ 47 :: r) = x ∧ tailS (x ++ 47 :: r) = r := by
  induction x with
  | nil => simp [headS, tailS]
  | cons c x ih =>
    obtain ⟨h1, h2⟩ := ih (fun g => h (List.mem_cons_of_mem _ g))
    have hc : c ≠ 47 := fun g => h (by rw [g]; simp)
    unfold headS tailS at *
    constructor
    · rw [List.cons_append, List.takeWhile_cons_of_pos (by simpa using hc), h1]
    · rw [List.cons_append, List.dropWhile_cons_of_pos (by simpa using hc), h2]
theorem cut_no (x : List UInt8) (h : (47 : UInt8) ∉ x) : headS x = x ∧ tailS x = [] := by
  induction x with
  | nil => simp [headS, tailS]
  | cons c x ih =>
    obtain ⟨h1, h2⟩ := ih (fun g => h (List.mem_cons_of_mem _ g))
    have hc : c ≠ 47 := fun g => h (by rw [g]; simp)
    unfold headS tailS at *
    constructor
    · rw [List.takeWhile_cons_of_pos (by simpa using hc), h1]
    · rw [List.dropWhile_cons_of_pos (by simpa using hc), h2]
theorem slash_cases (l : List UInt8) : (47 : UInt8) ∉ l ∨ ∃ x r, (47 : UInt8) ∉ x ∧ l = x ++ 47 :: r := by
  induction l with
  | nil => exact .inl (by simp)
  | cons c l ih =>
    by_cases hc : c = 47
    · subst hc
      exact .inr ⟨[], l, by simp, rfl⟩
    · rcases ih with h | ⟨x, r, h, rfl⟩
      · exact .inl (by intro g; rcases List.mem_cons.1 g with g | g; exact hc g.symm; exact h g)
      · exact .inr ⟨c :: x, r, by intro g; rcases List.mem_cons.1 g with g | g; exact hc g.symm; exact h g, rfl⟩
/-- the lowest length whose text this is; 33, if there is none up to 32 -/
def lenOf (l : List UInt8) : Nat := ((List.range 33).find? fun n => decide (dec n = l)).getD 33
theorem len_yes (n : Nat) (h : n ≤ 32) : lenOf (dec n) = n := by
  unfold lenOf
  cases hf : (List.range 33).find? fun m => decide (dec m = dec n) with
  | none =>
    rw [List.find?_eq_none] at hf
    exact absurd (by simp) (hf n (List.mem_range.2 (by omega)))
  | some m =>
    have := List.find?_some hf
    exact dec_inj (by simpa using this)
theorem len_no (l : List UInt8) (h : ∀ n, n ≤ 32 → dec n ≠ l) : lenOf l = 33 := by
  unfold lenOf
  cases hf : (List.range 33).find? fun m => decide (dec m = l) with
  | none => rfl
  | some m =>
    have h1 := List.find?_some hf
    have h2 := List.mem_of_find?_eq_some hf
    exact absurd (by simpa using h1) (h m (by have := List.mem_range.1 h2; omega))
theorem len_cases (l : List UInt8) : (lenOf l = 33 ∧ ∀ n, n ≤ 32 → dec n ≠ l) ∨ (lenOf l ≤ 32 ∧ dec (lenOf l) = l) := by
  by_cases h : ∃ n, n ≤ 32 ∧ dec n = l
  · obtain ⟨n, hn, rfl⟩ := h
    rw [len_yes n hn]
    exact .inr ⟨hn, rfl⟩
  · have h2 : ∀ n, n ≤ 32 → dec n ≠ l := fun n hn e => h ⟨n, hn, e⟩
    exact .inl ⟨len_no l h2, h2⟩
theorem len_le (l : List UInt8) : lenOf l ≤ 33 := by
  rcases len_cases l with ⟨h, _⟩ | ⟨h, _⟩ <;> omega
/-- what a text is parsed to -/
def pfx (l : List UInt8) : Nat × Nat × Int :=
  if pe (headS l) = 0 ∧ lenOf (tailS l) ≤ 32 then if loN (pa (headS l)) (lenOf (tailS l)) = pa (headS l) then (pa (headS l), lenOf (tailS l), 0) else (0, 0, 8) else (0, 0, 7)
theorem pfx_yes (a n : Nat) (ha : a < 4294967296) (hn : n ≤ 32) : pfx (txt a ++ 47 :: dec n) = if loN a n = a then (a, n, 0) else (0, 0, 8) := by
  obtain ⟨h1, h2⟩ := cut_at (txt a) (dec n) (txt_noslash a)
  unfold pfx
  rw [h1, h2, pe_txt a ha, pa_txt a ha, len_yes n hn, if_pos ⟨rfl, hn⟩]
theorem pfx_cases (l : List UInt8) : pfx l = (0, 0, 7) ∨ ∃ a n, a < 4294967296 ∧ n ≤ 32 ∧ l = txt a ++ 47 :: dec n := by
  by_cases h : pe (headS l) = 0 ∧ lenOf (tailS l) ≤ 32
  · obtain ⟨h1, h2⟩ := h
    obtain ⟨a, ha, e1⟩ := pe_of h1
    rcases len_cases (tailS l) with ⟨h3, _⟩ | ⟨_, h3⟩
    · omega
    · right
      refine ⟨a, lenOf (tailS l), ha, h2, ?_⟩
      rcases slash_cases l with g | ⟨x, r, g, rfl⟩
      · rw [(cut_no l g).2] at h3
        have := dec_pos (lenOf [])
        rw [h3] at this
        simp at this
      · obtain ⟨g1, g2⟩ := cut_at x r g
        rw [g1] at e1
        rw [g2] at h3 ⊢
        rw [h3, e1]
  · left
    unfold pfx
    rw [if_neg h]
theorem pfx_no (l : List UInt8) (h : ∀ a n, a < 4294967296 → n ≤ 32 → l ≠ txt a ++ 47 :: dec n) : pfx l = (0, 0, 7) := by
  rcases pfx_cases l with h1 | ⟨a, n, ha, hn, e⟩
  · exact h1
  · exact absurd e (h a n ha hn)
theorem pfx_lt (l : List UInt8) : (pfx l).1 < 4294967296 ∧ (pfx l).2.1 ≤ 32 := by
  rcases pfx_cases l with h1 | ⟨a, n, ha, hn, rfl⟩
  · rw [h1]; exact ⟨by decide, by decide⟩
  · rw [pfx_yes a n ha hn]
    split
    · exact ⟨ha, hn⟩
    · exact ⟨by decide, by decide⟩
/-- what is told: a prefix that may be, with this text; or 7, or 8 -/
theorem pfx_told (l : List UInt8) : ((pfx l).2.2 = 0 ∧ l = txt (pfx l).1 ++ 47 :: dec (pfx l).2.1 ∧ loN (pfx l).1 (pfx l).2.1 = (pfx l).1) ∨ ((pfx l).2.2 = 7 ∨ (pfx l).2.2 = 8) := by
  rcases pfx_cases l with h1 | ⟨a, n, ha, hn, rfl⟩
  · rw [h1]; exact .inr (.inl rfl)
  · rw [pfx_yes a n ha hn]
    split
    · rename_i h
      exact .inl ⟨rfl, rfl, h⟩
    · exact .inr (.inr rfl)
/-- a text with one slash alone whose last part is no length, or whose first part is no address -/
theorem pfx_slash (x r : List UInt8) (hx : (47 : UInt8) ∉ x) (h : ∀ n, n ≤ 32 → dec n ≠ r) : pfx (x ++ 47 :: r) = (0, 0, 7) := by
  obtain ⟨h1, h2⟩ := cut_at x r hx
  unfold pfx
  rw [h1, h2, if_neg]
  rintro ⟨_, h3⟩
  rw [len_no r h] at h3
  omega
theorem pfx_high (a n : Nat) (hn : 33 ≤ n) : pfx (txt a ++ 47 :: dec n) = (0, 0, 7) := pfx_slash _ _ (txt_noslash a) fun m hm e => by
  have := dec_inj e
  omega
theorem pfx_behind (a n : Nat) (c : UInt8) (h : isDig c = false) : pfx (txt a ++ 47 :: dec n ++ [c]) = (0, 0, 7) := by
  rw [List.append_assoc, List.cons_append]
  refine pfx_slash _ _ (txt_noslash a) fun m hm e => ?_
  have := dec_digs m c (by rw [e]; simp)
  rw [h] at this
  cases this
end Go.Proofs.YtohggpaffmcfoaaDoor
end
section
namespace Go.Proofs.YtohggpaffmcfoaaDoor
set_option linter.unusedVariables false
set_option maxRecDepth 100000
set_option linter.unusedSimpArgs false

/-- whether a rule may be: 0, or the first error -/
def mayR (a : Nat) (l c n nodes : Int) : Int :=
  if mayI a l ≠ 0 then mayI a l else if c = 1 then (if n < 0 ∨ nodes ≤ n then 10 else 0) else if c = 2 ∨ c = 3 then (if n = 0 then 0 else 10) else 9
theorem mayR_pfx {a : Nat} {l : Int} (c n nodes : Int) (h : mayI a l ≠ 0) : mayR a l c n nodes = mayI a l := by unfold mayR; rw [if_pos h]
theorem mayR_next {a : Nat} {l : Int} {n nodes : Int} (h : mayI a l = 0) (h2 : 0 ≤ n) (h3 : n < nodes) : mayR a l 1 n nodes = 0 := by
  unfold mayR; rw [if_neg (by simpa using h), if_pos rfl, if_neg (by omega)]
theorem mayR_next_no {a : Nat} {l : Int} {n nodes : Int} (h : mayI a l = 0) (h2 : n < 0 ∨ nodes ≤ n) : mayR a l 1 n nodes = 10 := by
  unfold mayR; rw [if_neg (by simpa using h), if_pos rfl, if_pos h2]
theorem mayR_end {a : Nat} {l c : Int} (nodes : Int) (h : mayI a l = 0) (hc : c = 2 ∨ c = 3) : mayR a l c 0 nodes = 0 := by
  unfold mayR; rw [if_neg (by simpa using h), if_neg (by omega), if_pos hc, if_pos rfl]
theorem mayR_end_no {a : Nat} {l c n : Int} (nodes : Int) (h : mayI a l = 0) (hc : c = 2 ∨ c = 3) (hn : n ≠ 0) : mayR a l c n nodes = 10 := by
  unfold mayR; rw [if_neg (by simpa using h), if_neg (by omega), if_pos hc, if_neg hn]
theorem mayR_act {a : Nat} {l c : Int} (n nodes : Int) (h : mayI a l = 0) (h1 : c ≠ 1) (h2 : c ≠ 2) (h3 : c ≠ 3) : mayR a l c n nodes = 9 := by
  unfold mayR; rw [if_neg (by simpa using h), if_neg h1, if_neg (by omega)]

/-- a rule's bytes, so many parts of it -/
def rb (a l c n : Nat) : Nat → List UInt8
  | 0 => []
  | 1 => be 4 a
  | 2 => be 4 a ++ be 1 l
  | 3 => be 4 a ++ be 1 l ++ be 1 c
  | _ => be 4 a ++ be 1 l ++ be 1 c ++ be 2 n
theorem rb_length (a l c n : Nat) : (rb a l c n 4).length = 8 := by simp [rb, be_length]
def fitR (l c n : Int) : Prop := (0 ≤ l ∧ l ≤ 255) ∧ (0 ≤ c ∧ c ≤ 255) ∧ (0 ≤ n ∧ n ≤ 65535)
instance (l c n : Int) : Decidable (fitR l c n) := by unfold fitR; infer_instance
/-- what Put tells -/
def putR (a : Nat) (l c n : Int) : List UInt8 × Int := if fitR l c n then (rb a l.toNat c.toNat n.toNat 4, 0) else ([], 1)
theorem putR_yes {a : Nat} {l c n : Int} (h : fitR l c n) : putR a l c n = (rb a l.toNat c.toNat n.toNat 4, 0) := if_pos h
theorem putR_no {a : Nat} {l c n : Int} (h : ¬ fitR l c n) : putR a l c n = ([], 1) := if_neg h
/-- what Take tells: address, length, action, node; an error -/
structure Rul where
  at_ : Nat
  len : Nat
  act : Nat
  nxt : Nat
def takeR (b : List UInt8) : Rul × Int :=
  if b.length < 8 then (⟨0, 0, 0, 0⟩, 2) else (⟨val (b.take 4), val ((b.drop 4).take 1), val ((b.drop 5).take 1), val ((b.drop 6).take 2)⟩, 0)
theorem takeR_short {b : List UInt8} (h : b.length < 8) : takeR b = (⟨0, 0, 0, 0⟩, 2) := if_pos h
theorem takeR_long {b : List UInt8} (h : 8 ≤ b.length) : takeR b = (⟨val (b.take 4), val ((b.drop 4).take 1), val ((b.drop 5).take 1), val ((b.drop 6).take 2)⟩, 0) := if_neg (by omega)
theorem val_take_le (l : List UInt8) (k m : Nat) (h : 256 ^ k = m + 1) : val (l.take k) ≤ m := by
  have := val_take_lt l k
  omega
theorem takeR_le (b : List UInt8) : (takeR b).1.at_ ≤ 4294967295 ∧ (takeR b).1.len ≤ 255 ∧ (takeR b).1.act ≤ 255 ∧ (takeR b).1.nxt ≤ 65535 := by
  unfold takeR
  split
  · exact ⟨Nat.zero_le _, Nat.zero_le _, Nat.zero_le _, Nat.zero_le _⟩
  · exact ⟨val_take_le _ 4 _ rfl, val_take_le _ 1 _ rfl, val_take_le _ 1 _ rfl, val_take_le _ 2 _ rfl⟩
theorem be_take (s : Nat) (l : List UInt8) (h : s ≤ l.length) : be s (val (l.take s)) = l.take s := by
  have := be_val (l.take s)
  rwa [List.length_take, Nat.min_eq_left h] at this
/-- any eight bytes are those of the rule that they are -/
theorem rb_taken (b : List UInt8) (h : 8 ≤ b.length) : rb (takeR b).1.at_ (takeR b).1.len (takeR b).1.act (takeR b).1.nxt 4 = b.take 8 := by
  rw [takeR_long h]
  show be 4 _ ++ be 1 _ ++ be 1 _ ++ be 2 _ = _
  rw [be_take 4 b (by omega), be_take 1 (b.drop 4) (by rw [List.length_drop]; omega), be_take 1 (b.drop 5) (by rw [List.length_drop]; omega), be_take 2 (b.drop 6) (by rw [List.length_drop]; omega)]
  rw [← List.take_add, ← List.take_add, ← List.take_add]
/-- a rule that fits is taken as it was put, whatever stands behind -/
theorem taken_rb (a l c n : Nat) (r : List UInt8) (ha : a ≤ 4294967295) (hl : l ≤ 255) (hc : c ≤ 255) (hn : n ≤ 65535) : takeR (rb a l c n 4 ++ r) = (⟨a, l, c, n⟩, 0) := by
  rw [takeR_long (by rw [List.length_append, rb_length]; omega)]
  have e1 : rb a l c n 4 ++ r = be 4 a ++ (be 1 l ++ (be 1 c ++ (be 2 n ++ r))) := by simp [rb, List.append_assoc]
  have t1 : (rb a l c n 4 ++ r).take 4 = be 4 a := by rw [e1, List.take_left' (be_length 4 a)]
  have d1 : (rb a l c n 4 ++ r).drop 4 = be 1 l ++ (be 1 c ++ (be 2 n ++ r)) := by rw [e1, List.drop_left' (be_length 4 a)]
  have d2 : (rb a l c n 4 ++ r).drop 5 = be 1 c ++ (be 2 n ++ r) := by rw [show 5 = 4 + 1 from rfl, ← List.drop_drop, d1, List.drop_left' (be_length 1 l)]
  have d3 : (rb a l c n 4 ++ r).drop 6 = be 2 n ++ r := by rw [show 6 = 5 + 1 from rfl, ← List.drop_drop, d2, List.drop_left' (be_length 1 c)]
  rw [t1, d1, d2, d3, List.take_left' (be_length 1 l), List.take_left' (be_length 1 c), List.take_left' (be_length 2 n), val_be_lt 4 a (by omega), val_be_lt 1 l (by omega), val_be_lt 1 c (by omega), val_be_lt 2 n (by omega)]
end Go.Proofs.YtohggpaffmcfoaaDoor
end
section
namespace Go.Proofs.YtohggpaffmcfoaaDoor
set_option linter.unusedVariables false
set_option maxRecDepth 100000
set_option linter.unusedSimpArgs false

structure Rl where
  at_ : Nat
  len : Int
  act : Int
  nxt : Int
theorem Rl.same {x y : Rl} (h1 : x.at_ = y.at_) (h2 : x.len = y.len) (h3 : x.act = y.act) (h4 : x.nxt = y.nxt) : x = y := by
  cases x; cases y; simp_all

/-! order -/
def cmpR (x y : Rl) : Int := cmpI x.at_ x.len y.at_ y.len
theorem cmpR_lt {x y : Rl} : cmpR x y = -1 ↔ x.at_ < y.at_ ∨ (x.at_ = y.at_ ∧ x.len < y.len) := by
  unfold cmpR cmpI
  split
  · simp_all
  · split <;> simp_all
theorem cmpR_eq {x y : Rl} : cmpR x y = 0 ↔ x.at_ = y.at_ ∧ x.len = y.len := by
  unfold cmpR cmpI
  split
  · rename_i h
    constructor
    · intro h2; omega
    · rintro ⟨h1, h2⟩; omega
  · split <;> simp_all
theorem cmpR_gt {x y : Rl} : cmpR x y = 1 ↔ cmpR y x = -1 := by
  rw [cmpR_lt]
  unfold cmpR cmpI
  split
  · constructor
    · intro h2; omega
    · intro h2; omega
  · split
    · constructor
      · intro h2; omega
      · intro h2; omega
    · constructor
      · intro h2; omega
      · intro h2; rfl
theorem cmpR_self (x : Rl) : cmpR x x = 0 := cmpR_eq.2 ⟨rfl, rfl⟩
theorem cmpR_three (x y : Rl) : cmpR x y = -1 ∨ cmpR x y = 0 ∨ cmpR x y = 1 := by
  rw [cmpR_gt, cmpR_lt, cmpR_lt, cmpR_eq]
  omega
def ltR (x y : Rl) : Prop := cmpR x y = -1
theorem ltR_trans {x y z : Rl} (h1 : ltR x y) (h2 : ltR y z) : ltR x z := by
  unfold ltR at *
  rw [cmpR_lt] at *
  omega
theorem ltR_irr {x : Rl} : ¬ ltR x x := by unfold ltR; rw [cmpR_lt]; omega
theorem ltR_ne {x y : Rl} (h : ltR x y) : cmpR x y ≠ 0 ∧ cmpR y x ≠ 0 := by
  unfold ltR at h
  rw [cmpR_lt] at h
  constructor
  · rw [Ne, cmpR_eq]; omega
  · rw [Ne, cmpR_eq]; omega

/-! which may be -/
def mayRl (r : Rl) (m : Int) : Int := mayR r.at_ r.len r.act r.nxt m
theorem mayRl_ok {r : Rl} {m : Int} : mayRl r m = 0 ↔ mayI r.at_ r.len = 0 ∧ ((r.act = 1 ∧ 0 ≤ r.nxt ∧ r.nxt < m) ∨ ((r.act = 2 ∨ r.act = 3) ∧ r.nxt = 0)) := by
  unfold mayRl mayR
  split
  · rename_i h
    constructor
    · intro h2; exact absurd h2 h
    · rintro ⟨h2, _⟩; exact absurd h2 h
  · rename_i h
    have h0 : mayI r.at_ r.len = 0 := by simpa using h
    split
    · rename_i h1
      split
      · constructor
        · intro h3; omega
        · rintro ⟨_, h3⟩; omega
      · constructor
        · intro _; exact ⟨h0, by omega⟩
        · intro _; rfl
    · split
      · split
        · constructor
          · intro _; exact ⟨h0, by omega⟩
          · intro _; rfl
        · constructor
          · intro h3; omega
          · rintro ⟨_, h3⟩; omega
      · constructor
        · intro h3; omega
        · rintro ⟨_, h3⟩; omega
theorem mayI_ok {a : Nat} {n : Int} : mayI a n = 0 ↔ 0 ≤ n ∧ n ≤ 32 ∧ loN a (cl n) = a := by
  unfold mayI
  split
  · constructor
    · intro h; omega
    · rintro ⟨h1, h2, _⟩; omega
  · split
    · rename_i h1 h2
      constructor
      · intro _; exact ⟨by omega, by omega, h2⟩
      · intro _; rfl
    · rename_i h1 h2
      constructor
      · intro h; omega
      · rintro ⟨_, _, h3⟩; exact absurd h3 h2
/-- rule by rule: the rule's error; 11, if it is not above the one ahead -/
def mayGo : Option Rl → List Rl → Int → Int
  | _, [], _ => 0
  | p, r :: l, m => if mayRl r m ≠ 0 then mayRl r m else match p with
    | none => mayGo (some r) l m
    | some q => if cmpR r q ≠ 1 then 11 else mayGo (some r) l m
def mayT (l : List Rl) (m : Int) : Int := mayGo none l m
def Ord (l : List Rl) : Prop := l.Pairwise ltR
def OkT (l : List Rl) (m : Int) : Prop := ∀ r ∈ l, mayRl r m = 0
theorem mayGo_ok (m : Int) : ∀ (l : List Rl) (p : Option Rl), (mayGo p l m = 0 ↔ OkT l m ∧ Ord l ∧ ∀ q, p = some q → ∀ r ∈ l, ltR q r)
  | [], p => by simp [mayGo, OkT, Ord]
  | r :: l, p => by
    unfold mayGo
    by_cases h : mayRl r m = 0
    · rw [if_neg (by simpa using h)]
      have ih := mayGo_ok m l (some r)
      have key : mayGo (some r) l m = 0 ↔ OkT (r :: l) m ∧ Ord (r :: l) := by
        rw [ih]
        unfold OkT Ord
        rw [List.pairwise_cons]
        constructor
        · rintro ⟨h1, h2, h3⟩
          exact ⟨fun x hx => by rcases List.mem_cons.1 hx with rfl | hx; exact h; exact h1 x hx, h3 r rfl, h2⟩
        · rintro ⟨h1, h2, h3⟩
          exact ⟨fun x hx => h1 x (List.mem_cons_of_mem _ hx), h3, fun q hq x hx => by cases hq; exact h2 x hx⟩
      cases p with
      | none =>
        simp only [key]
        simp
      | some q =>
        simp only
        by_cases hc : cmpR r q = 1
        · rw [if_neg (by simpa using hc), key]
          have hq : ltR q r := cmpR_gt.1 hc
          constructor
          · rintro ⟨h1, h2⟩
            refine ⟨h1, h2, fun q' hq' x hx => ?_⟩
            cases hq'
            rcases List.mem_cons.1 hx with rfl | hx
            · exact hq
            · unfold Ord at h2
              rw [List.pairwise_cons] at h2
              exact ltR_trans hq (h2.1 x hx)
          · rintro ⟨h1, h2, _⟩; exact ⟨h1, h2⟩
        · rw [if_pos hc]
          constructor
          · intro h1; omega
          · rintro ⟨_, _, h3⟩
            exact absurd (cmpR_gt.2 (h3 q rfl r (by simp))) hc
    · rw [if_pos h]
      constructor
      · intro h1; exact absurd h1 h
      · rintro ⟨h1, _⟩; exact absurd (h1 r (by simp)) h
theorem mayT_ok {l : List Rl} {m : Int} : mayT l m = 0 ↔ OkT l m ∧ Ord l := by
  unfold mayT
  rw [mayGo_ok]
  simp
theorem mayGo_cons (p : Option Rl) (r : Rl) (l : List Rl) (m : Int) : mayGo p (r :: l) m = if mayRl r m ≠ 0 then mayRl r m else match p with
    | none => mayGo (some r) l m
    | some q => if cmpR r q ≠ 1 then 11 else mayGo (some r) l m := rfl
/-- what is ahead may be: the rest tells -/
theorem mayGo_app (m : Int) (y : List Rl) : ∀ (x : List Rl) (p : Option Rl), mayGo p x m = 0 → mayGo p (x ++ y) m = mayGo (x.getLast?.or p) y m
  | [], p, _ => by simp
  | r :: x, p, h => by
    rw [List.cons_append, mayGo_cons]
    rw [mayGo_cons] at h
    by_cases h0 : mayRl r m = 0
    · rw [if_neg (by simpa using h0)] at h ⊢
      have e : ((r :: x).getLast?.or p) = (x.getLast?.or (some r)) := by
        rw [List.getLast?_cons]
        cases x.getLast? <;> simp
      rw [e]
      cases p with
      | none => exact mayGo_app m y x (some r) h
      | some q =>
        simp only at h ⊢
        by_cases hc : cmpR r q = 1
        · rw [if_neg (by simpa using hc)] at h ⊢
          exact mayGo_app m y x (some r) h
        · rw [if_pos hc] at h
          omega
    · rw [if_pos h0] at h
      exact absurd h h0
/-- from place k on -/
def prevOf (l : List Rl) (k : Nat) : Option Rl := (l.take k).getLast?
theorem prev_zero (l : List Rl) : prevOf l 0 = none := by simp [prevOf]
theorem prev_succ (l : List Rl) (k : Nat) (hk : k < l.length) : prevOf l (k + 1) = some l[k] := by
  unfold prevOf
  rw [List.take_succ_eq_append_getElem hk, List.getLast?_concat]
theorem mayT_at (l : List Rl) (k : Nat) (m : Int) (hk : k < l.length) : mayGo (prevOf l k) (l.drop k) m = if mayRl l[k] m ≠ 0 then mayRl l[k] m else match prevOf l k with
    | none => mayGo (some l[k]) (l.drop (k + 1)) m
    | some q => if cmpR l[k] q ≠ 1 then 11 else mayGo (some l[k]) (l.drop (k + 1)) m := by
  rw [List.drop_eq_getElem_cons hk, mayGo_cons]
theorem mayT_bad (l : List Rl) (k : Nat) (m : Int) (hk : k < l.length) (h : mayRl l[k] m ≠ 0) : mayGo (prevOf l k) (l.drop k) m = mayRl l[k] m := by rw [mayT_at l k m hk, if_pos h]
theorem mayT_first (l : List Rl) (m : Int) (hk : 0 < l.length) (h : mayRl l[0] m = 0) : mayGo (prevOf l 0) (l.drop 0) m = mayGo (prevOf l (0 + 1)) (l.drop (0 + 1)) m := by
  rw [mayT_at l 0 m hk, if_neg (by simpa using h), prev_zero, prev_succ l 0 hk]
theorem mayT_next (l : List Rl) (k : Nat) (m : Int) (hk : k + 1 < l.length) (h : mayRl l[k + 1] m = 0) (hc : cmpR l[k + 1] l[k] = 1) : mayGo (prevOf l (k + 1)) (l.drop (k + 1)) m = mayGo (prevOf l (k + 1 + 1)) (l.drop (k + 1 + 1)) m := by
  rw [mayT_at l (k + 1) m hk, if_neg (by simpa using h), prev_succ l k (by omega), prev_succ l (k + 1) hk]
  simp only
  rw [if_neg (by simpa using hc)]
theorem mayT_order (l : List Rl) (k : Nat) (m : Int) (hk : k + 1 < l.length) (h : mayRl l[k + 1] m = 0) (hc : cmpR l[k + 1] l[k] ≠ 1) : mayGo (prevOf l (k + 1)) (l.drop (k + 1)) m = 11 := by
  rw [mayT_at l (k + 1) m hk, if_neg (by simpa using h), prev_succ l k (by omega)]
  simp only
  rw [if_pos hc]
theorem mayT_end (l : List Rl) (m : Int) : mayGo (prevOf l l.length) (l.drop l.length) m = 0 := by rw [List.drop_length]; rfl
/-- with fewer nodes: the node's error, or none -/
theorem mayGo_fewer (m m' : Int) : ∀ (l : List Rl) (p : Option Rl), mayGo p l m = 0 → (∃ r ∈ l, r.act = 1 ∧ m' ≤ r.nxt) → mayGo p l m' = 10
  | [], p, _, h => by obtain ⟨r, hr, _⟩ := h; cases hr
  | r :: l, p, h, hx => by
    rw [mayGo_cons] at h ⊢
    by_cases h0 : mayRl r m = 0
    · rw [if_neg (by simpa using h0)] at h
      obtain ⟨h1, h2⟩ := mayRl_ok.1 h0
      by_cases hr : r.act = 1 ∧ m' ≤ r.nxt
      · have e : mayRl r m' = 10 := by
          unfold mayRl
          rw [hr.1]
          exact mayR_next_no h1 (.inr hr.2)
        rw [e, if_pos (by omega)]
      · have e : mayRl r m' = 0 := mayRl_ok.2 ⟨h1, by omega⟩
        rw [e, if_neg (by omega)]
        have hx2 : ∃ r ∈ l, r.act = 1 ∧ m' ≤ r.nxt := by
          obtain ⟨x, hm, hq⟩ := hx
          rcases List.mem_cons.1 hm with rfl | hm
          · exact absurd hq hr
          · exact ⟨x, hm, hq⟩
        cases p with
        | none => exact mayGo_fewer m m' l (some r) h hx2
        | some q =>
          simp only at h ⊢
          by_cases hc : cmpR r q = 1
          · rw [if_neg (by simpa using hc)] at h ⊢
            exact mayGo_fewer m m' l (some r) h hx2
          · rw [if_pos hc] at h
            omega
    · rw [if_pos h0] at h
      exact absurd h h0

/-! which is found -/
def holdR (r : Rl) (a : Nat) : Bool := holdB r.at_ (cl r.len) a
def above (r : Rl) : Option Rl → Bool
  | none => true
  | some b => decide (b.len < r.len)
def stepF (a : Nat) (o : Option Rl) (r : Rl) : Option Rl := if holdR r a && above r o then some r else o
def findF (l : List Rl) (a : Nat) : Option Rl := l.foldl (stepF a) none
/-- what has been found of x: the first one of the longest that hold -/
def Best (x : List Rl) (a : Nat) (o : Option Rl) : Prop :=
  match o with
  | none => ∀ r ∈ x, holdR r a = false
  | some b => b ∈ x ∧ holdR b a = true ∧ ∀ r ∈ x, holdR r a = true → r.len ≤ b.len
theorem best_step {x : List Rl} {a : Nat} {o : Option Rl} (r : Rl) (h : Best x a o) : Best (x ++ [r]) a (stepF a o r) := by
  unfold stepF
  by_cases hh : holdR r a = true
  · cases o with
    | none =>
      simp only [hh, above, Bool.and_self, if_true]
      refine ⟨by simp, hh, fun q hq hq2 => ?_⟩
      rcases List.mem_append.1 hq with hq | hq
      · rw [h q hq] at hq2; cases hq2
      · simp at hq; subst hq; exact Int.le_refl _
    | some b =>
      obtain ⟨h1, h2, h3⟩ := h
      by_cases hl : b.len < r.len
      · simp only [hh, above, hl, decide_true, Bool.and_self, if_true]
        refine ⟨by simp, hh, fun q hq hq2 => ?_⟩
        rcases List.mem_append.1 hq with hq | hq
        · have := h3 q hq hq2; omega
        · simp at hq; subst hq; exact Int.le_refl _
      · simp only [hh, above, hl, decide_false, Bool.and_false]
        refine ⟨by simp [h1], h2, fun q hq hq2 => ?_⟩
        rcases List.mem_append.1 hq with hq | hq
        · exact h3 q hq hq2
        · simp at hq; subst hq; omega
  · have hf : holdR r a = false := by simpa using hh
    simp only [hf, Bool.false_and]
    cases o with
    | none =>
      intro q hq
      rcases List.mem_append.1 hq with hq | hq
      · exact h q hq
      · simp at hq; subst hq; exact hf
    | some b =>
      obtain ⟨h1, h2, h3⟩ := h
      refine ⟨by simp [h1], h2, fun q hq hq2 => ?_⟩
      rcases List.mem_append.1 hq with hq | hq
      · exact h3 q hq hq2
      · simp at hq; subst hq; exact absurd hq2 hh
theorem best_fold (a : Nat) : ∀ (y x : List Rl) (o : Option Rl), Best x a o → Best (x ++ y) a (y.foldl (stepF a) o)
  | [], x, o, h => by simpa using h
  | r :: y, x, o, h => by
    have := best_fold a y (x ++ [r]) _ (best_step r h)
    simpa using this
theorem find_best (l : List Rl) (a : Nat) : Best l a (findF l a) := by
  have h0 : Best [] a none := fun r hr => by cases hr
  have := best_fold a l [] none h0
  simpa [findF] using this
theorem find_none {l : List Rl} {a : Nat} : findF l a = none ↔ ∀ r ∈ l, holdR r a = false := by
  have h := find_best l a
  constructor
  · intro e
    rw [e] at h
    exact h
  · intro g
    cases e : findF l a with
    | none => rfl
    | some b =>
      rw [e] at h
      obtain ⟨h1, h2, _⟩ := h
      rw [g b h1] at h2
      cases h2
theorem find_some {l : List Rl} {a : Nat} {b : Rl} (e : findF l a = some b) : b ∈ l ∧ holdR b a = true ∧ ∀ r ∈ l, holdR r a = true → r.len ≤ b.len := by
  have h := find_best l a
  rw [e] at h
  exact h

theorem find_succ (l : List Rl) (a k : Nat) (hk : k < l.length) : findF (l.take (k + 1)) a = stepF a (findF (l.take k) a) l[k] := by
  unfold findF
  rw [List.take_succ_eq_append_getElem hk, List.foldl_append]
  rfl
theorem step_not {a : Nat} {o : Option Rl} {r : Rl} (h : holdR r a = false) : stepF a o r = o := by simp [stepF, h]
theorem step_first {a : Nat} {r : Rl} (h : holdR r a = true) : stepF a none r = some r := by simp [stepF, h, above]
theorem step_longer {a : Nat} {b r : Rl} (h : holdR r a = true) (hl : b.len < r.len) : stepF a (some b) r = some r := by simp [stepF, h, above, hl]
theorem step_shorter {a : Nat} {b r : Rl} (hl : ¬ b.len < r.len) : stepF a (some b) r = some b := by simp [stepF, above, hl]
/-- the rule that an answer says: all 0, if there is none -/
def foundR (o : Option Rl) : Rl := o.getD ⟨0, 0, 0, 0⟩
/-- Next: the node, if it is sent on -/
def nextT (o : Option Rl) : Int × Bool := match o with
  | none => (0, false)
  | some r => if r.act = 1 then (r.nxt, true) else (0, false)

/-! tables that may be -/
structure Tbl (l : List Rl) (m : Int) : Prop where
  ok : OkT l m
  ord : Ord l
theorem ok_len {r : Rl} {m : Int} (h : mayRl r m = 0) : 0 ≤ r.len ∧ r.len ≤ 32 ∧ loN r.at_ (cl r.len) = r.at_ := mayI_ok.1 (mayRl_ok.1 h).1
theorem hold_at {r : Rl} {m : Int} {a : Nat} (h : mayRl r m = 0) (hh : holdR r a = true) : r.at_ = loN a (cl r.len) := by
  obtain ⟨_, _, h3⟩ := ok_len h
  unfold holdR holdB at hh
  rw [decide_eq_true_iff] at hh
  rw [← hh, h3]
/-- of an order each place is below the others, or the same one -/
theorem ord_two {l : List Rl} (h : Ord l) {x y : Rl} (hx : x ∈ l) (hy : y ∈ l) : x = y ∨ ltR x y ∨ ltR y x := by
  induction l with
  | nil => cases hx
  | cons z l ih =>
    unfold Ord at h
    rw [List.pairwise_cons] at h
    rcases List.mem_cons.1 hx with e1 | hx1
    · rcases List.mem_cons.1 hy with e2 | hy1
      · exact .inl (by rw [e1, e2])
      · exact .inr (.inl (by rw [e1]; exact h.1 y hy1))
    · rcases List.mem_cons.1 hy with e2 | hy1
      · exact .inr (.inr (by rw [e2]; exact h.1 x hx1))
      · exact ih h.2 hx1 hy1
/-- two of one length that hold an address are one -/
theorem tbl_one {l : List Rl} {m : Int} (h : Tbl l m) {x y : Rl} {a : Nat} (hx : x ∈ l) (hy : y ∈ l) (h1 : holdR x a = true) (h2 : holdR y a = true) (hl : x.len = y.len) : x = y := by
  have e : cmpR x y = 0 := cmpR_eq.2 ⟨by rw [hold_at (h.ok x hx) h1, hold_at (h.ok y hy) h2, hl], hl⟩
  rcases ord_two h.ord hx hy with g | g | g
  · exact g
  · exact absurd e (ltR_ne g).1
  · exact absurd e (ltR_ne g).2
/-- what is found of a table that may be: the one that holds, and is longest -/
theorem find_is {l : List Rl} {m : Int} (h : Tbl l m) {b : Rl} {a : Nat} (hb : b ∈ l) (h1 : holdR b a = true) (h2 : ∀ r ∈ l, holdR r a = true → r.len ≤ b.len) : findF l a = some b := by
  cases e : findF l a with
  | none =>
    have := find_none.1 e b hb
    rw [this] at h1
    cases h1
  | some c =>
    obtain ⟨g1, g2, g3⟩ := find_some e
    have := g3 b hb h1
    have := h2 c g1 g2
    rw [tbl_one h g1 hb g2 h1 (by omega)]
/-- two tables with the same rules find the same -/
theorem find_same {l l' : List Rl} {m m' : Int} (h : Tbl l m) (h' : Tbl l' m') (a : Nat) (hm : ∀ r, holdR r a = true → (r ∈ l ↔ r ∈ l')) : findF l a = findF l' a := by
  cases e : findF l' a with
  | none =>
    rw [find_none] at e ⊢
    intro r hr
    cases g : holdR r a with
    | false => rfl
    | true =>
      have := e r ((hm r g).1 hr)
      rw [this] at g
      cases g
  | some b =>
    obtain ⟨g1, g2, g3⟩ := find_some e
    exact find_is h ((hm b g2).2 g1) g2 fun r hr hh => g3 r ((hm r hh).1 hr) hh

/-! tables made such as may be -/
def fitN (l m : Int) : Int := (l.tmod m + m).tmod m
def fitRl (m : Int) (r : Rl) : Rl := ⟨loN r.at_ (fitN r.len 33).toNat, fitN r.len 33, if fitN r.act 3 = 0 then 3 else fitN r.act 3, if fitN r.act 3 = 1 then fitN r.nxt m else 0⟩
theorem fitN_bd (l m : Int) (hm : 0 < m) : 0 ≤ fitN l m ∧ fitN l m < m := by
  have h1 : -m < l.tmod m := by
    rcases Int.le_total 0 l with h | h
    · rw [Int.tmod_eq_emod_of_nonneg h]
      have := Int.emod_nonneg l (show m ≠ 0 by omega)
      omega
    · have e : l.tmod m = -((-l).tmod m) := by rw [Int.neg_tmod, Int.neg_neg]
      rw [e, Int.tmod_eq_emod_of_nonneg (by omega)]
      have := Int.emod_lt_of_pos (-l) hm
      omega
  unfold fitN
  rw [Int.tmod_eq_emod_of_nonneg (by omega)]
  exact ⟨Int.emod_nonneg _ (by omega), Int.emod_lt_of_pos _ hm⟩
theorem fitN_id {l m : Int} (h0 : 0 ≤ l) (h1 : l < m) : fitN l m = l := by
  unfold fitN
  rw [Int.tmod_eq_emod_of_nonneg h0, Int.emod_eq_of_lt h0 h1, Int.tmod_eq_emod_of_nonneg (by omega), Int.add_emod_right, Int.emod_eq_of_lt h0 h1]
theorem fitRl_ok (r : Rl) (m : Int) (hm : 0 < m) : mayRl (fitRl m r) m = 0 := by
  obtain ⟨a1, a2⟩ := fitN_bd r.len 33 (by omega)
  obtain ⟨b1, b2⟩ := fitN_bd r.act 3 (by omega)
  obtain ⟨c1, c2⟩ := fitN_bd r.nxt m hm
  rw [mayRl_ok]
  unfold fitRl
  refine ⟨mayI_ok.2 ⟨a1, by show fitN r.len 33 ≤ 32; omega, ?_⟩, ?_⟩
  · show loN (loN r.at_ (fitN r.len 33).toNat) (cl (fitN r.len 33)) = _
    rw [show cl (fitN r.len 33) = (fitN r.len 33).toNat by unfold cl; omega]
    exact lo_lo _ _
  · rcases (by omega : fitN r.act 3 = 0 ∨ fitN r.act 3 = 1 ∨ fitN r.act 3 = 2) with h | h | h
    · simp [h]
    · simp [h, c1, c2]
    · simp [h]
theorem fitRl_id {r : Rl} {m : Int} (h : mayRl r m = 0) : fitRl m r = r := by
  obtain ⟨h1, h2⟩ := mayRl_ok.1 h
  obtain ⟨g1, g2, g3⟩ := mayI_ok.1 h1
  have e1 : fitN r.len 33 = r.len := fitN_id g1 (by omega)
  have e2 : cl r.len = r.len.toNat := by unfold cl; omega
  unfold fitRl
  refine Rl.same ?_ ?_ ?_ ?_
  · show loN r.at_ (fitN r.len 33).toNat = r.at_
    rw [e1, ← e2, g3]
  · exact e1
  · show (if fitN r.act 3 = 0 then 3 else fitN r.act 3) = r.act
    rcases h2 with ⟨h, _⟩ | ⟨h | h, _⟩
    · rw [h]; decide
    · rw [h]; decide
    · rw [h]; decide
  · show (if fitN r.act 3 = 1 then fitN r.nxt m else 0) = r.nxt
    rcases h2 with ⟨h, h3, h4⟩ | ⟨h | h, h3⟩
    · rw [h, if_pos (by decide), fitN_id h3 h4]
    · rw [h, if_neg (by decide), h3]
    · rw [h, if_neg (by decide), h3]
theorem fitRl_at (m : Int) (r : Rl) : (fitRl m r).at_ ≤ r.at_ := lo_le _ _
def ins : List Rl → Rl → List Rl
  | [], r => [r]
  | x :: l, r => if cmpR x r = -1 then x :: ins l r else if cmpR x r = 0 then x :: l else r :: x :: l
theorem ins_mem {l : List Rl} {r x : Rl} (h : x ∈ ins l r) : x ∈ l ∨ x = r := by
  induction l with
  | nil => simpa [ins] using h
  | cons z l ih =>
    unfold ins at h
    split at h
    · rcases List.mem_cons.1 h with rfl | h
      · exact .inl (by simp)
      · rcases ih h with h | h
        · exact .inl (List.mem_cons_of_mem _ h)
        · exact .inr h
    · split at h
      · exact .inl h
      · rcases List.mem_cons.1 h with rfl | h
        · exact .inr rfl
        · exact .inl h
theorem ins_old {l : List Rl} {r x : Rl} (h : x ∈ l) : x ∈ ins l r := by
  induction l with
  | nil => cases h
  | cons z l ih =>
    unfold ins
    split
    · rcases List.mem_cons.1 h with rfl | h
      · simp
      · exact List.mem_cons_of_mem _ (ih h)
    · split
      · exact h
      · exact List.mem_cons_of_mem _ h
theorem ins_ord {l : List Rl} {r : Rl} (h : Ord l) : Ord (ins l r) := by
  induction l with
  | nil => simp [ins, Ord]
  | cons z l ih =>
    unfold Ord at h ih ⊢
    rw [List.pairwise_cons] at h
    unfold ins
    split
    · rename_i hz
      rw [List.pairwise_cons]
      refine ⟨fun x hx => ?_, ih h.2⟩
      rcases ins_mem hx with hx | rfl
      · exact h.1 x hx
      · exact hz
    · split
      · rw [List.pairwise_cons]; exact h
      · rename_i h1 h2
        have h3 : ltR r z := by
          rcases cmpR_three z r with g | g | g
          · exact absurd g h1
          · exact absurd g h2
          · exact cmpR_gt.1 g
        rw [List.pairwise_cons, List.pairwise_cons]
        refine ⟨fun x hx => ?_, h⟩
        rcases List.mem_cons.1 hx with rfl | hx
        · exact h3
        · exact ltR_trans h3 (h.1 x hx)
/-- the prefix is there: nothing changes -/
theorem ins_there {l : List Rl} {r x : Rl} (h : Ord l) (hx : x ∈ l) (hc : cmpR x r = 0) : ins l r = l := by
  induction l with
  | nil => cases hx
  | cons z l ih =>
    unfold Ord at h ih
    rw [List.pairwise_cons] at h
    unfold ins
    rcases List.mem_cons.1 hx with rfl | hx
    · rw [hc]; simp
    · have hz := h.1 x hx
      have e := cmpR_eq.1 hc
      have : cmpR z r = -1 := by
        unfold ltR at hz
        rw [cmpR_lt] at hz ⊢
        omega
      rw [if_pos this, ih h.2 hx]
/-- it isn't there: one more -/
theorem ins_new {l : List Rl} {r : Rl} (h : ∀ x ∈ l, cmpR x r ≠ 0) : (ins l r).length = l.length + 1 ∧ r ∈ ins l r := by
  induction l with
  | nil => simp [ins]
  | cons z l ih =>
    obtain ⟨h1, h2⟩ := ih fun x hx => h x (List.mem_cons_of_mem _ hx)
    unfold ins
    split
    · exact ⟨by simp [h1], List.mem_cons_of_mem _ h2⟩
    · rw [if_neg (h z (by simp))]
      exact ⟨by simp, by simp⟩
theorem ins_le (l : List Rl) (r : Rl) : (ins l r).length ≤ l.length + 1 := by
  induction l with
  | nil => simp [ins]
  | cons z l ih =>
    unfold ins
    split
    · simp; omega
    · split <;> simp
/-- above all: at the end -/
theorem ins_end {l : List Rl} {r : Rl} (h : ∀ x ∈ l, ltR x r) : ins l r = l ++ [r] := by
  induction l with
  | nil => rfl
  | cons z l ih =>
    unfold ins
    rw [if_pos (show cmpR z r = -1 from h z (by simp)), ih fun x hx => h x (List.mem_cons_of_mem _ hx)]
    rfl
theorem ins_ok {l : List Rl} {r : Rl} {m : Int} (h : OkT l m) (hr : mayRl r m = 0) : OkT (ins l r) m := fun x hx => by
  rcases ins_mem hx with hx | rfl
  · exact h x hx
  · exact hr
theorem ins_tbl {l : List Rl} {r : Rl} {m : Int} (h : Tbl l m) (hr : mayRl r m = 0) : Tbl (ins l r) m := ⟨ins_ok h.ok hr, ins_ord h.ord⟩
/-- all of them, one behind the other -/
def insAll (o l : List Rl) : List Rl := l.foldl ins o
theorem insAll_tbl {m : Int} : ∀ {l o : List Rl}, Tbl o m → OkT l m → Tbl (insAll o l) m
  | [], o, h, _ => h
  | r :: l, o, h, hl => by
    show Tbl (insAll (ins o r) l) m
    exact insAll_tbl (ins_tbl h (hl r (by simp))) (fun x hx => hl x (List.mem_cons_of_mem _ hx))
theorem insAll_le : ∀ (l o : List Rl), (insAll o l).length ≤ o.length + l.length
  | [], o => by simp [insAll]
  | r :: l, o => by
    have h1 := insAll_le l (ins o r)
    have h2 := ins_le o r
    simp only [insAll, List.foldl_cons, List.length_cons] at h1 ⊢
    omega
/-- what is in order is laid as it is -/
theorem insAll_ord : ∀ {l o : List Rl}, Ord (o ++ l) → insAll o l = o ++ l
  | [], o, _ => by simp [insAll]
  | r :: l, o, h => by
    have e : ins o r = o ++ [r] := ins_end fun x hx => by
      unfold Ord at h
      rw [List.pairwise_append] at h
      exact h.2.2 x hx r (by simp)
    have h2 : Ord ((o ++ [r]) ++ l) := by simpa using h
    have := insAll_ord h2
    simp only [insAll, List.foldl_cons, e] at this ⊢
    simpa using this
/-- a table that may be, out of any rules -/
def fitT (m : Int) (l : List Rl) : List Rl := insAll [] ((l.take 20).map (fitRl m))
theorem fitT_tbl (m : Int) (l : List Rl) (hm : 0 < m) : Tbl (fitT m l) m :=
  insAll_tbl ⟨(fun r hr => by cases hr), List.Pairwise.nil⟩ fun r hr => by
    obtain ⟨x, _, rfl⟩ := List.mem_map.1 hr
    exact fitRl_ok x m hm
theorem fitT_le (m : Int) (l : List Rl) : (fitT m l).length ≤ 20 := by
  have := insAll_le ((l.take 20).map (fitRl m)) []
  simp only [List.length_nil, List.length_map, List.length_take] at this
  unfold fitT
  omega
theorem fitT_id {m : Int} {l : List Rl} (h : Tbl l m) (hl : l.length ≤ 20) : fitT m l = l := by
  unfold fitT
  rw [List.take_of_length_le hl]
  have e : l.map (fitRl m) = l := by
    have : ∀ r ∈ l, fitRl m r = r := fun r hr => fitRl_id (h.ok r hr)
    rw [List.map_congr_left this, List.map_id']
  rw [e, insAll_ord (by simpa using h.ord)]
  rfl
theorem fitT_snoc {m : Int} {l : List Rl} {r : Rl} (h : Tbl l m) (hl : l.length ≤ 19) (hr : mayRl r m = 0) : fitT m (l ++ [r]) = ins l r := by
  unfold fitT
  rw [List.take_of_length_le (by simp; omega), List.map_append]
  have e : l.map (fitRl m) = l := by
    have : ∀ r ∈ l, fitRl m r = r := fun r hr => fitRl_id (h.ok r hr)
    rw [List.map_congr_left this, List.map_id']
  have e2 : [r].map (fitRl m) = [r] := by simp [fitRl_id hr]
  rw [e, e2]
  unfold insAll
  rw [List.foldl_append]
  show ins (insAll [] l) r = _
  rw [insAll_ord (by simpa using h.ord)]
  rfl
/-- where it is laid: behind all that are below it -/
theorem ins_split {x y : List Rl} {r : Rl} (hx : ∀ z ∈ x, ltR z r) : ins (x ++ y) r = x ++ ins y r := by
  induction x with
  | nil => rfl
  | cons z x ih =>
    have e : ins (z :: (x ++ y)) r = z :: ins (x ++ y) r := if_pos (show cmpR z r = -1 from hx z (by simp))
    rw [List.cons_append, e, ih fun q hq => hx q (List.mem_cons_of_mem _ hq), List.cons_append]
/-- of unlike prefixes all are there -/
theorem insAll_mem : ∀ {l o : List Rl}, (∀ x ∈ o, ∀ y ∈ l, cmpR x y ≠ 0) → l.Pairwise (fun x y => cmpR x y ≠ 0) → ∀ x, x ∈ insAll o l ↔ x ∈ o ∨ x ∈ l
  | [], o, _, _, x => by simp [insAll]
  | r :: l, o, h1, h2, x => by
    rw [List.pairwise_cons] at h2
    have hr : ∀ x ∈ o, cmpR x r ≠ 0 := fun x hx => h1 x hx r (by simp)
    have ih := insAll_mem (l := l) (o := ins o r) (fun y hy z hz => by
      rcases ins_mem hy with hy | rfl
      · exact h1 y hy z (List.mem_cons_of_mem _ hz)
      · exact h2.1 z hz) h2.2 x
    simp only [insAll, List.foldl_cons] at ih ⊢
    rw [ih]
    constructor
    · rintro (h | h)
      · rcases ins_mem h with h | rfl
        · exact .inl h
        · exact .inr (by simp)
      · exact .inr (List.mem_cons_of_mem _ h)
    · rintro (h | h)
      · exact .inl (ins_old h)
      · rcases List.mem_cons.1 h with rfl | h
        · exact .inl (ins_new hr).2
        · exact .inr h
end Go.Proofs.YtohggpaffmcfoaaDoor
end
section
namespace Go.Proofs.YtohggpaffmcfoaaDoor
set_option linter.unusedVariables false
set_option maxRecDepth 100000
set_option linter.unusedSimpArgs false

abbrev Nt := List (List Rl)
def szN : Nt → Nat
  | [] => 0
  | l :: r => l.length + szN r
def firstE (m : Int) : Nt → Int
  | [] => 0
  | l :: r => if mayT l m ≠ 0 then mayT l m else firstE m r
def mayN (N : Nt) : Int := if 256 < N.length ∨ 4096 < szN N then 12 else firstE N.length N
def asO (p : Int × Bool) : Option Int := if p.2 then some p.1 else none
def resO (o : Option Int) : Int × Bool := (o.getD 0, o.isSome)
def stN (N : Nt) (a : Nat) (v : Int) : Option Int := if 0 ≤ v then match N[v.toNat]? with
  | none => none
  | some l => asO (nextT (findF l a)) else none
def itN (N : Nt) (a : Nat) : Nat → Int → Option Int
  | 0, v => some v
  | k + 1, v => (stN N a v).bind (itN N a k)
def wkN (N : Nt) (a : Nat) (v k : Int) : Option Int := if k < 0 ∨ 256 < k ∨ v < 0 ∨ (N.length : Int) ≤ v then none else itN N a k.toNat v
def chase (N : Nt) (a : Nat) (v : Int) : Nat → Option Int → List Int → Option (List Int)
  | _, none, _ => none
  | 0, some w, acc => if w = v then some acc else none
  | f + 1, some w, acc => if w = v then some acc else chase N a v f (stN N a w) (acc ++ [w])
def lpAt (N : Nt) (a : Nat) (v : Int) : Option (List Int) := chase N a v (N.length - 1) (stN N a v) [v]
def lpFrom (N : Nt) (a : Nat) : Nat → Nat → Option (List Int)
  | 0, _ => none
  | f + 1, v => match lpAt N a v with
    | some l => some l
    | none => lpFrom N a f (v + 1)
/-- the loop of the least node -/
def lpN (N : Nt) (a : Nat) : Option (List Int) := lpFrom N a N.length 0

/-! answers as pairs -/
theorem nextT_pair (o : Option Rl) : resO (asO (nextT o)) = nextT o := by
  cases o with
  | none => rfl
  | some r =>
    unfold nextT
    by_cases h : r.act = 1 <;> simp [h, asO, resO]
theorem resO_some (x : Int) : resO (some x) = (x, true) := rfl
theorem resO_none : resO none = (0, false) := rfl

/-! sizes -/
theorem szN_append (x y : Nt) : szN (x ++ y) = szN x + szN y := by
  induction x with
  | nil => simp [szN]
  | cons l x ih => rw [List.cons_append]; simp only [szN]; omega
theorem szN_take_le (N : Nt) (k : Nat) : szN (N.take k) ≤ szN N := by
  have h := szN_append (N.take k) (N.drop k)
  rw [List.take_append_drop] at h
  omega
theorem szN_succ (N : Nt) (k : Nat) (hk : k < N.length) : szN (N.take (k + 1)) = szN (N.take k) + N[k].length := by
  rw [List.take_succ_eq_append_getElem hk, szN_append]
  simp [szN]
theorem szN_bound {N : Nt} {B : Nat} (h : ∀ l ∈ N, l.length ≤ B) : szN N ≤ N.length * B := by
  induction N with
  | nil => simp [szN]
  | cons l N ih =>
    have h1 := ih (fun x hx => h x (List.mem_cons_of_mem _ hx))
    have h2 := h l List.mem_cons_self
    simp only [szN, List.length_cons, Nat.add_mul]
    omega
theorem firstE_drop (N : Nt) (m : Int) (k : Nat) (hk : k < N.length) : firstE m (N.drop k) = if mayT N[k] m ≠ 0 then mayT N[k] m else firstE m (N.drop (k + 1)) := by
  rw [List.drop_eq_getElem_cons hk]
  rfl
theorem firstE_ok {m : Int} : ∀ {N : Nt}, firstE m N = 0 ↔ ∀ l ∈ N, mayT l m = 0
  | [] => by simp [firstE]
  | l :: N => by
    unfold firstE
    by_cases h : mayT l m = 0
    · rw [if_neg (by simpa using h), firstE_ok]
      constructor
      · intro g x hx
        rcases List.mem_cons.1 hx with rfl | hx
        · exact h
        · exact g x hx
      · exact fun g x hx => g x (List.mem_cons_of_mem _ hx)
    · rw [if_pos h]
      constructor
      · exact fun g => absurd g h
      · exact fun g => g l List.mem_cons_self

/-! steps and walks -/
theorem stN_at (N : Nt) (a k : Nat) (hk : k < N.length) : stN N a (k : Int) = asO (nextT (findF N[k] a)) := by
  unfold stN
  rw [if_pos (by omega)]
  simp [hk]
theorem stN_low (N : Nt) (a : Nat) {v : Int} (h : v < 0) : stN N a v = none := by
  unfold stN
  rw [if_neg (by omega)]
theorem stN_high (N : Nt) (a : Nat) {v : Int} (h : (N.length : Int) ≤ v) : stN N a v = none := by
  unfold stN
  rw [if_pos (by omega), List.getElem?_eq_none (by omega)]
theorem stN_in {N : Nt} {a : Nat} {v x : Int} (h : stN N a v = some x) : 0 ≤ v ∧ v < N.length := by
  constructor
  · rcases Int.lt_or_le v 0 with g | g
    · rw [stN_low N a g] at h; cases h
    · exact g
  · rcases Int.lt_or_le v N.length with g | g
    · exact g
    · rw [stN_high N a g] at h; cases h
theorem itN_add (N : Nt) (a : Nat) : ∀ (i k : Nat) (v : Int), itN N a (i + k) v = (itN N a i v).bind (itN N a k)
  | 0, k, v => by rw [Nat.zero_add]; rfl
  | i + 1, k, v => by
    rw [show i + 1 + k = (i + k) + 1 by omega]
    show (stN N a v).bind (itN N a (i + k)) = ((stN N a v).bind (itN N a i)).bind (itN N a k)
    cases stN N a v with
    | none => rfl
    | some w => exact itN_add N a i k w
theorem itN_one (N : Nt) (a : Nat) (v : Int) : itN N a 1 v = stN N a v := by
  show (stN N a v).bind (itN N a 0) = _
  cases stN N a v <;> rfl
theorem itN_snoc (N : Nt) (a k : Nat) (v : Int) : itN N a (k + 1) v = (itN N a k v).bind (stN N a) := by
  rw [itN_add]
  congr 1
  exact funext fun w => itN_one N a w
theorem itN_less {N : Nt} {a k : Nat} {v x : Int} (h : itN N a k v = some x) {i : Nat} (hi : i ≤ k) : ∃ y, itN N a i v = some y := by
  rw [show k = i + (k - i) by omega, itN_add] at h
  cases e : itN N a i v with
  | none => rw [e] at h; cases h
  | some y => exact ⟨y, rfl⟩
/-- each step stays in the first m nodes -/
def InN (N : Nt) (a : Nat) (m : Nat) : Prop := ∀ v x : Int, v < m → stN N a v = some x → 0 ≤ x ∧ x < m
theorem okN_in {N : Nt} (a : Nat) (h : ∀ l ∈ N, OkT l N.length) : InN N a N.length := by
  intro v x hv hs
  obtain ⟨h0, h1⟩ := stN_in hs
  obtain ⟨k, rfl⟩ := Int.eq_ofNat_of_zero_le h0
  have hk : k < N.length := by omega
  rw [stN_at N a k hk] at hs
  cases e : findF N[k] a with
  | none => rw [e] at hs; cases hs
  | some r =>
    rw [e] at hs
    have hr := h N[k] (List.getElem_mem hk) r (find_some e).1
    unfold nextT asO at hs
    by_cases ha : r.act = 1
    · simp [ha] at hs
      subst hs
      rcases (mayRl_ok.1 hr).2 with ⟨_, g1, g2⟩ | ⟨g, _⟩
      · exact ⟨g1, g2⟩
      · omega
    · simp [ha] at hs
theorem itN_in {N : Nt} {a m : Nat} (h : InN N a m) : ∀ {k : Nat} {v x : Int}, 0 ≤ v → v < m → itN N a k v = some x → 0 ≤ x ∧ x < m
  | 0, v, x, h0, h1, e => by injection e with e; omega
  | k + 1, v, x, h0, h1, e => by
    change (stN N a v).bind (itN N a k) = some x at e
    cases g : stN N a v with
    | none => rw [g] at e; cases e
    | some w =>
      rw [g] at e
      have hw := h v w h1 g
      exact itN_in h hw.1 hw.2 e
theorem wkN_ok {N : Nt} {a : Nat} {v k : Int} (h0 : 0 ≤ k) (h1 : k ≤ 256) (h2 : 0 ≤ v) (h3 : v < N.length) : wkN N a v k = itN N a k.toNat v := by
  unfold wkN
  rw [if_neg (by omega)]
theorem wkN_no {N : Nt} {a : Nat} {v k : Int} (h : k < 0 ∨ 256 < k ∨ v < 0 ∨ (N.length : Int) ≤ v) : wkN N a v k = none := by
  unfold wkN
  rw [if_pos h]

/-! periods -/
/-- so many nodes can't be unlike: two places of a row of more than m numbers below m are the same -/
theorem pigeon : ∀ (m : Nat) (f : Nat → Int), (∀ i, i ≤ m → 0 ≤ f i ∧ f i < m) → ∃ i j, i < j ∧ j ≤ m ∧ f i = f j
  | 0, f, h => by have := h 0 (Nat.le_refl _); omega
  | m + 1, f, h => by
    by_cases hx : ∃ i, i ≤ m ∧ f i = f (m + 1)
    · obtain ⟨i, hi, e⟩ := hx
      exact ⟨i, m + 1, by omega, Nat.le_refl _, e⟩
    · have hu : ∀ i, i ≤ m → f i ≠ f (m + 1) := fun i hi e => hx ⟨i, hi, e⟩
      have hl := h (m + 1) (Nat.le_refl _)
      obtain ⟨i, j, h1, h2, h3⟩ := pigeon m (fun i => if f i = m then f (m + 1) else f i) (fun i hi => by
        have h1 := h i (by omega)
        have h2 := hu i hi
        by_cases g : f i = m
        · simp only [g, ↓reduceIte]
          rw [g] at h2
          omega
        · simp only [g, ↓reduceIte]
          omega)
      refine ⟨i, j, h1, by omega, ?_⟩
      have hi := hu i (by omega)
      have hj := hu j h2
      by_cases g1 : f i = m <;> by_cases g2 : f j = m <;> simp only [g1, g2, ↓reduceIte] at h3 <;> omega
theorem period {N : Nt} {a : Nat} {v : Int} {K : Nat} (h : itN N a K v = some v) (n : Nat) : itN N a (K * n) v = some v := by
  induction n with
  | zero => rfl
  | succ n ih => rw [Nat.mul_succ, itN_add, ih]; exact h
/-- who comes back walks for ever -/
theorem ever {N : Nt} {a : Nat} {v : Int} {K : Nat} (hK : 1 ≤ K) (h : itN N a K v = some v) (n : Nat) : ∃ x, itN N a n v = some x :=
  itN_less (period h n) (Nat.le_mul_of_pos_left n hK)
/-- who walks as many steps as there are nodes comes, by then, to one that comes back -/
theorem long_back {N : Nt} {a m : Nat} (hin : InN N a m) {v u : Int} (h0 : 0 ≤ v) (h1 : v < m) (h : itN N a m v = some u) : ∃ k, 1 ≤ k ∧ k ≤ m ∧ itN N a k u = some u := by
  have hx : ∀ i, i ≤ m → ∃ x, itN N a i v = some x := fun i hi => itN_less h hi
  obtain ⟨i, j, hij, hj, e⟩ := pigeon m (fun i => (itN N a i v).getD 0) (fun i hi => by
    obtain ⟨x, hx⟩ := hx i hi
    simp only [hx, Option.getD_some]
    exact itN_in hin h0 h1 hx)
  obtain ⟨x, hxi⟩ := hx i (by omega)
  obtain ⟨y, hyj⟩ := hx j hj
  simp only [hxi, hyj, Option.getD_some] at e
  subst e
  have hp : itN N a (j - i) x = some x := by
    have := hyj
    rw [show j = i + (j - i) by omega, itN_add, hxi] at this
    exact this
  have hu : itN N a (m - i) x = some u := by
    have := h
    rw [show m = i + (m - i) by omega, itN_add, hxi] at this
    exact this
  refine ⟨j - i, by omega, by omega, ?_⟩
  have h3 : itN N a ((j - i) + (m - i)) x = some u := by rw [itN_add, hp]; exact hu
  rw [Nat.add_comm, itN_add, hu] at h3
  exact h3
/-- the first return is within as many steps as there are nodes -/
def First (N : Nt) (a : Nat) (v : Int) (K : Nat) : Prop := 1 ≤ K ∧ itN N a K v = some v ∧ ∀ i, 1 ≤ i → i < K → itN N a i v ≠ some v
theorem first_of {N : Nt} {a : Nat} {v : Int} : ∀ {K : Nat}, 1 ≤ K → itN N a K v = some v → ∃ k, k ≤ K ∧ First N a v k := by
  intro K
  induction K using Nat.strongRecOn with
  | ind K ih =>
    intro h1 h2
    by_cases h : ∃ i, 1 ≤ i ∧ i < K ∧ itN N a i v = some v
    · obtain ⟨i, g1, g2, g3⟩ := h
      obtain ⟨k, k1, k2⟩ := ih i g2 g1 g3
      exact ⟨k, by omega, k2⟩
    · exact ⟨K, Nat.le_refl _, h1, h2, fun i g1 g2 g3 => h ⟨i, g1, g2, g3⟩⟩
theorem first_unlike {N : Nt} {a : Nat} {v : Int} {K : Nat} (h : First N a v K) {i j : Nat} (hij : i < j) (hj : j < K) : itN N a i v ≠ itN N a j v := by
  intro e
  obtain ⟨h1, h2, h3⟩ := h
  obtain ⟨x, hx⟩ := itN_less h2 (Nat.le_of_lt hj)
  have hj2 : itN N a (K - j) x = some v := by
    have := h2
    rw [show K = j + (K - j) by omega, itN_add, hx] at this
    exact this
  rw [hx] at e
  refine h3 (i + (K - j)) (by omega) (by omega) ?_
  rw [itN_add, e]
  exact hj2
theorem first_le {N : Nt} {a m : Nat} (hin : InN N a m) {v : Int} (h0 : 0 ≤ v) (h1 : v < m) {K : Nat} (h : First N a v K) : K ≤ m := by
  rcases Nat.lt_or_ge m K with g | g
  · obtain ⟨i, j, hij, hj, e⟩ := pigeon m (fun i => (itN N a i v).getD 0) (fun i hi => by
      obtain ⟨x, hx⟩ := itN_less h.2.1 (i := i) (by omega)
      simp only [hx, Option.getD_some]
      exact itN_in hin h0 h1 hx)
    obtain ⟨x, hx⟩ := itN_less h.2.1 (i := i) (by omega)
    obtain ⟨y, hy⟩ := itN_less h.2.1 (i := j) (by omega)
    simp only [hx, hy, Option.getD_some] at e
    exact absurd (by rw [hx, hy, e]) (first_unlike h hij (by omega))
  · exact g
theorem first_one {N : Nt} {a : Nat} {v : Int} {K L : Nat} (h : First N a v K) (g : First N a v L) : K = L := by
  rcases Nat.lt_trichotomy K L with e | e | e
  · exact absurd h.2.1 (g.2.2 K h.1 e)
  · exact e
  · exact absurd g.2.1 (h.2.2 L g.1 e)

/-! the loop of a node -/
def path (N : Nt) (a : Nat) (v : Int) (K : Nat) : List Int := (List.range K).map fun i => (itN N a i v).getD 0
theorem path_succ (N : Nt) (a : Nat) (v : Int) (K : Nat) : path N a v (K + 1) = path N a v K ++ [(itN N a K v).getD 0] := by
  unfold path
  rw [List.range_succ, List.map_append]
  rfl
theorem path_one (N : Nt) (a : Nat) (v : Int) : path N a v 1 = [v] := rfl
theorem path_len (N : Nt) (a : Nat) (v : Int) (K : Nat) : (path N a v K).length = K := by simp [path]
theorem path_at (N : Nt) (a : Nat) (v : Int) (K i : Nat) (hi : i < (path N a v K).length) : (path N a v K)[i] = (itN N a i v).getD 0 := by simp [path]
theorem chase_yes (N : Nt) (a : Nat) (v : Int) : ∀ (f j K : Nat), 1 ≤ j → j ≤ K → K ≤ j + f → First N a v K → chase N a v f (itN N a j v) (path N a v j) = some (path N a v K) := by
  intro f
  induction f with
  | zero =>
    intro j K h1 h2 h3 h
    obtain rfl : j = K := by omega
    rw [h.2.1]
    simp [chase]
  | succ f ih =>
    intro j K h1 h2 h3 h
    rcases Nat.lt_or_ge j K with g | g
    · obtain ⟨w, hw⟩ := itN_less h.2.1 (Nat.le_of_lt g)
      have hne := h.2.2 j h1 g
      rw [hw] at hne ⊢
      have hwv : w ≠ v := fun e => hne (by rw [e])
      have := ih (j + 1) K (by omega) (by omega) (by omega) h
      rw [path_succ, hw, itN_snoc, hw] at this
      simp only [chase, hwv, ↓reduceIte]
      exact this
    · obtain rfl : j = K := by omega
      rw [h.2.1]
      simp [chase]
theorem chase_no (N : Nt) (a : Nat) (v : Int) : ∀ (f j : Nat), (∀ k, j ≤ k → k ≤ j + f → itN N a k v ≠ some v) → ∀ acc, chase N a v f (itN N a j v) acc = none := by
  intro f
  induction f with
  | zero =>
    intro j h acc
    have := h j (Nat.le_refl _) (Nat.le_refl _)
    cases e : itN N a j v with
    | none => rfl
    | some w =>
      rw [e] at this
      simp only [chase]
      rw [if_neg (fun g => this (by rw [g]))]
  | succ f ih =>
    intro j h acc
    have h0 := h j (Nat.le_refl _) (by omega)
    cases e : itN N a j v with
    | none => rfl
    | some w =>
      rw [e] at h0
      have := ih (j + 1) (fun k g1 g2 => h k (by omega) (by omega)) (acc ++ [w])
      rw [itN_snoc, e] at this
      simp only [chase]
      rw [if_neg (fun g => h0 (by rw [g]))]
      exact this
theorem lpAt_yes {N : Nt} {a : Nat} {v : Int} {K : Nat} (h : First N a v K) (hK : K ≤ N.length) : lpAt N a v = some (path N a v K) := by
  have := chase_yes N a v (N.length - 1) 1 K (Nat.le_refl _) h.1 (by have := h.1; omega) h
  rw [itN_one, path_one] at this
  exact this
theorem lpAt_no {N : Nt} {a : Nat} {v : Int} (h : ∀ k, 1 ≤ k → k ≤ N.length → itN N a k v ≠ some v) (hn : 1 ≤ N.length) : lpAt N a v = none := by
  have := chase_no N a v (N.length - 1) 1 (fun k g1 g2 => h k g1 (by omega)) [v]
  rw [itN_one] at this
  exact this
/-- v comes back within as many steps as there are nodes -/
def Back (N : Nt) (a : Nat) (v : Int) : Prop := ∃ k, 1 ≤ k ∧ k ≤ N.length ∧ itN N a k v = some v
theorem back_first {N : Nt} {a : Nat} {v : Int} (h : Back N a v) : ∃ K, K ≤ N.length ∧ First N a v K := by
  obtain ⟨k, h1, h2, h3⟩ := h
  obtain ⟨K, g1, g2⟩ := first_of h1 h3
  exact ⟨K, by omega, g2⟩
theorem lpAt_none {N : Nt} {a : Nat} {v : Int} (hn : 1 ≤ N.length) (h : ¬ Back N a v) : lpAt N a v = none := lpAt_no (fun k g1 g2 g3 => h ⟨k, g1, g2, g3⟩) hn
theorem lpFrom_none (N : Nt) (a : Nat) : ∀ (f v : Nat), (∀ u : Nat, v ≤ u → u < v + f → lpAt N a u = none) → lpFrom N a f v = none
  | 0, _, _ => rfl
  | f + 1, v, h => by
    unfold lpFrom
    rw [h v (Nat.le_refl _) (by omega)]
    exact lpFrom_none N a f (v + 1) (fun u g1 g2 => h u (by omega) (by omega))
theorem lpFrom_some (N : Nt) (a : Nat) : ∀ (f v u : Nat) (l : List Int), v ≤ u → u < v + f → lpAt N a u = some l → (∀ t : Nat, v ≤ t → t < u → lpAt N a t = none) → lpFrom N a f v = some l
  | 0, v, u, l, h1, h2, _, _ => by omega
  | f + 1, v, u, l, h1, h2, h3, h4 => by
    unfold lpFrom
    rcases Nat.lt_or_ge v u with g | g
    · rw [h4 v (Nat.le_refl _) g]
      exact lpFrom_some N a f (v + 1) u l g (by omega) h3 (fun t g1 g2 => h4 t (by omega) g2)
    · obtain rfl : v = u := by omega
      rw [h3]
/-- the loop: of the least node that comes back -/
theorem lpN_yes {N : Nt} {a u K : Nat} (hu : u < N.length) (h : First N a u K) (hK : K ≤ N.length) (hl : ∀ t : Nat, t < u → ¬ Back N a t) : lpN N a = some (path N a u K) :=
  lpFrom_some N a N.length 0 u _ (Nat.zero_le _) (by omega) (lpAt_yes h hK) (fun t _ g => lpAt_none (by omega) (hl t g))
theorem lpN_no {N : Nt} {a : Nat} (h : ∀ t : Nat, t < N.length → ¬ Back N a t) : lpN N a = none :=
  lpFrom_none N a N.length 0 (fun t _ g => lpAt_none (by omega) (h t (by omega)))
theorem least_back {N : Nt} {a : Nat} : ∀ n : Nat, (∃ t : Nat, t < n ∧ Back N a t) → ∃ u : Nat, u < n ∧ Back N a u ∧ ∀ t : Nat, t < u → ¬ Back N a t
  | 0, h => by obtain ⟨t, h1, _⟩ := h; omega
  | n + 1, h => by
    by_cases g : ∃ t : Nat, t < n ∧ Back N a t
    · obtain ⟨u, u1, u2, u3⟩ := least_back n g
      exact ⟨u, by omega, u2, u3⟩
    · obtain ⟨t, h1, h2⟩ := h
      refine ⟨t, h1, h2, fun s hs hb => g ⟨s, by omega, hb⟩⟩
/-- what Loop tells, either way -/
theorem lpN_or (N : Nt) (a : Nat) : (lpN N a = none ∧ ∀ t : Nat, t < N.length → ¬ Back N a t) ∨ ∃ u K : Nat, u < N.length ∧ K ≤ N.length ∧ First N a u K ∧ lpN N a = some (path N a u K) ∧ ∀ t : Nat, t < u → ¬ Back N a t := by
  by_cases g : ∃ t : Nat, t < N.length ∧ Back N a t
  · obtain ⟨u, u1, u2, u3⟩ := least_back N.length g
    obtain ⟨K, k1, k2⟩ := back_first u2
    exact .inr ⟨u, K, u1, k1, k2, lpN_yes u1 k2 k1 u3, u3⟩
  · have hn : ∀ t : Nat, t < N.length → ¬ Back N a t := fun t h1 h2 => g ⟨t, h1, h2⟩
    exact .inl ⟨lpN_no hn, hn⟩
end Go.Proofs.YtohggpaffmcfoaaDoor
end
section
namespace Go.Proofs.YtohggpaffmcfoaaDoor
set_option linter.unusedVariables false
set_option maxRecDepth 100000
set_option linter.unusedSimpArgs false

def rbL (r : Rl) : List UInt8 := rb r.at_ r.len.toNat r.act.toNat r.nxt.toNat 4
def flatB : List Rl → List UInt8
  | [] => []
  | r :: l => rbL r ++ flatB l
/-- a node's rules, as they lie in its section -/
def nodeB (l : List Rl) : List UInt8 := grp l.length ++ flatB l
def sectB (l : List Rl) : List UInt8 := 84 :: (grp (nodeB l).length ++ nodeB l)
def sectsB : Nt → List UInt8
  | [] => []
  | l :: N => sectB l ++ sectsB N
/-- a network's bytes between magic and sum -/
def bodyB (N : Nt) : List UInt8 := grp N.length ++ sectsB N
def magicN : Nat := 1179206193
def putNf (N : Nt) : List UInt8 × Int := if mayN N ≠ 0 then ([], mayN N) else (frameN magicN (bodyB N), 0)
def ofRul (x : Rul) : Rl := ⟨x.at_, x.len, x.act, x.nxt⟩
/-- so many rules more of bytes -/
def rulesA : List Rl → Nat → List UInt8 → List Rl × List UInt8 × Int
  | acc, 0, b => (acc, b, 0)
  | acc, n + 1, b => if (takeR b).2 ≠ 0 then ([], [], (takeR b).2) else rulesA (acc ++ [ofRul (takeR b).1]) n (b.drop 8)
def nodeT (b : List UInt8) : List Rl × Int :=
  if (takeG b).2.2 ≠ 0 then ([], (takeG b).2.2) else if 4096 < (takeG b).1 then ([], 12) else
  if (rulesA [] (takeG b).1.toNat (b.drop (takeG b).2.1.toNat)).2.2 ≠ 0 then ([], (rulesA [] (takeG b).1.toNat (b.drop (takeG b).2.1.toNat)).2.2) else
  if 0 < (rulesA [] (takeG b).1.toNat (b.drop (takeG b).2.1.toNat)).2.1.length then ([], 4) else ((rulesA [] (takeG b).1.toNat (b.drop (takeG b).2.1.toNat)).1, 0)
/-- so many nodes more of bytes -/
def netsA : Nt → Nat → List UInt8 → Nt × List UInt8 × Int
  | acc, 0, b => (acc, b, 0)
  | acc, n + 1, b => if (openF 84 b).2.2 ≠ 0 then ([], [], (openF 84 b).2.2) else if (nodeT (openF 84 b).1).2 ≠ 0 then ([], [], (nodeT (openF 84 b).1).2) else netsA (acc ++ [(nodeT (openF 84 b).1).1]) n (openF 84 b).2.1
def endT (p : Nt × List UInt8 × Int) : Nt × Int := if p.2.2 ≠ 0 then ([], p.2.2) else if 0 < p.2.1.length then ([], 4) else if mayN p.1 ≠ 0 then ([], mayN p.1) else (p.1, 0)
def bodyT (b : List UInt8) : Nt × Int :=
  if (takeG b).2.2 ≠ 0 then ([], (takeG b).2.2) else if 256 < (takeG b).1 then ([], 12) else endT (netsA [] (takeG b).1.toNat (b.drop (takeG b).2.1.toNat))
def takeNf (b : List UInt8) : Nt × Int := if (takeF magicN b).2 ≠ 0 then ([], (takeF magicN b).2) else bodyT (takeF magicN b).1

/-! rules that may be have bytes -/
/-- a rule's numbers are in the bounds of their bytes -/
def FitL (r : Rl) : Prop := r.at_ ≤ 4294967295 ∧ fitR r.len r.act r.nxt
theorem fit_of_may {r : Rl} {m : Int} (h : mayRl r m = 0) (hm : m ≤ 256) (ha : r.at_ ≤ 4294967295) : FitL r := by
  have h1 := mayRl_ok.1 h
  have h2 := ok_len h
  refine ⟨ha, ⟨by omega, by omega⟩, ?_, ?_⟩
  · rcases h1.2 with ⟨e, _⟩ | ⟨e, _⟩ <;> omega
  · rcases h1.2 with ⟨_, e1, e2⟩ | ⟨_, e⟩ <;> omega
theorem rbL_length (r : Rl) : (rbL r).length = 8 := rb_length _ _ _ _
theorem flatB_length (l : List Rl) : (flatB l).length = 8 * l.length := by
  induction l with
  | nil => rfl
  | cons r l ih => simp only [flatB, List.length_append, rbL_length, ih, List.length_cons]; omega
theorem flatB_append (x y : List Rl) : flatB (x ++ y) = flatB x ++ flatB y := by
  induction x with
  | nil => rfl
  | cons r x ih => simp only [List.cons_append, flatB, ih, List.append_assoc]
theorem nodeB_length (l : List Rl) : (nodeB l).length = gsize l.length + 8 * l.length := by simp only [nodeB, List.length_append, grp_length, flatB_length]
theorem sectB_length (l : List Rl) : (sectB l).length = 1 + gsize (nodeB l).length + (nodeB l).length := by
  unfold sectB
  rw [List.length_cons, List.length_append, grp_length]
  omega
theorem sectsB_append (x y : Nt) : sectsB (x ++ y) = sectsB x ++ sectsB y := by
  induction x with
  | nil => rfl
  | cons r x ih => simp only [List.cons_append, sectsB, ih, List.append_assoc]
theorem takeR_rbL (r : Rl) (h : FitL r) (t : List UInt8) : takeR (rbL r ++ t) = (⟨r.at_, r.len.toNat, r.act.toNat, r.nxt.toNat⟩, 0) ∧ ofRul ⟨r.at_, r.len.toNat, r.act.toNat, r.nxt.toNat⟩ = r := by
  obtain ⟨h0, ⟨h1, h2⟩, ⟨h3, h4⟩, h5, h6⟩ := h
  refine ⟨taken_rb _ _ _ _ t h0 (by omega) (by omega) (by omega), ?_⟩
  exact Rl.same rfl (show ((r.len.toNat : Nat) : Int) = r.len by omega) (show ((r.act.toNat : Nat) : Int) = r.act by omega) (show ((r.nxt.toNat : Nat) : Int) = r.nxt by omega)
theorem drop_rbL (r : Rl) (t : List UInt8) : (rbL r ++ t).drop 8 = t := List.drop_left' (rbL_length r)
theorem rulesA_flat : ∀ (l acc : List Rl) (t : List UInt8), (∀ r ∈ l, FitL r) → rulesA acc l.length (flatB l ++ t) = (acc ++ l, t, 0)
  | [], acc, t, _ => by simp [rulesA, flatB]
  | r :: l, acc, t, h => by
    obtain ⟨e1, e2⟩ := takeR_rbL r (h r List.mem_cons_self) (flatB l ++ t)
    have ih := rulesA_flat l (acc ++ [r]) t (fun x hx => h x (List.mem_cons_of_mem _ hx))
    simp only [List.length_cons, flatB, List.append_assoc, rulesA]
    rw [e1, drop_rbL]
    simp only [ne_eq, not_true_eq_false, if_false]
    rw [e2, ih, List.append_assoc]
    rfl
theorem nodeT_node (l : List Rl) (h : ∀ r ∈ l, FitL r) (hl : l.length ≤ 4096) : nodeT (nodeB l) = (l, 0) := by
  have ht := take_grp l.length (by omega) (flatB l)
  have hd : (grp l.length ++ flatB l).drop (gsize l.length) = flatB l := List.drop_left' (grp_length _)
  have hr := rulesA_flat l [] [] h
  rw [List.append_nil, List.nil_append] at hr
  unfold nodeT nodeB
  rw [ht]
  simp only [Int.toNat_natCast, hd, hr, ne_eq, not_true_eq_false, if_false, List.length_nil]
  rw [if_neg (by omega), if_neg (by omega)]
theorem nodeB_le {l : List Rl} (h : l.length ≤ 4096) : (nodeB l).length ≤ 268435455 := by
  have := gsize_pos l.length
  rw [nodeB_length]
  omega
theorem open_sectB {l : List Rl} (h : l.length ≤ 4096) (t : List UInt8) : openF 84 (sectB l ++ t) = (nodeB l, t, 0) := open_sect 84 (nodeB l) t (nodeB_le h)
/-- the nodes' rules have bytes -/
def FitT (N : Nt) : Prop := ∀ l ∈ N, l.length ≤ 4096 ∧ ∀ r ∈ l, FitL r
theorem netsA_sects : ∀ (N acc : Nt) (t : List UInt8), FitT N → netsA acc N.length (sectsB N ++ t) = (acc ++ N, t, 0)
  | [], acc, t, _ => by simp [netsA, sectsB]
  | l :: N, acc, t, h => by
    obtain ⟨h1, h2⟩ := h l List.mem_cons_self
    have ih := netsA_sects N (acc ++ [l]) t (fun x hx => h x (List.mem_cons_of_mem _ hx))
    simp only [List.length_cons, sectsB, List.append_assoc, netsA]
    rw [open_sectB h1, nodeT_node l h2 h1]
    simp only [ne_eq, not_true_eq_false, if_false]
    rw [ih, List.append_assoc]
    rfl
theorem szN_mem {N : Nt} {l : List Rl} (h : l ∈ N) : l.length ≤ szN N := by
  induction N with
  | nil => cases h
  | cons x N ih =>
    rcases List.mem_cons.1 h with rfl | h
    · simp only [szN]; omega
    · have := ih h
      simp only [szN]
      omega
theorem mayN_ok {N : Nt} : mayN N = 0 ↔ N.length ≤ 256 ∧ szN N ≤ 4096 ∧ ∀ l ∈ N, mayT l N.length = 0 := by
  unfold mayN
  split
  · rename_i h
    constructor
    · intro e; cases e
    · intro e; omega
  · rename_i h
    rw [firstE_ok]
    constructor
    · exact fun e => ⟨by omega, by omega, e⟩
    · exact fun e => e.2.2
theorem fit_of_net {N : Nt} (h : mayN N = 0) (hw : ∀ l ∈ N, ∀ r ∈ l, r.at_ ≤ 4294967295) : FitT N := fun l hl => by
  obtain ⟨h1, h2, h3⟩ := mayN_ok.1 h
  have h4 := szN_mem hl
  exact ⟨by omega, fun r hr => fit_of_may ((mayT_ok.1 (h3 l hl)).1 r hr) (by omega) (hw l hl r hr)⟩
theorem bodyT_body {N : Nt} (h : mayN N = 0) (hw : ∀ l ∈ N, ∀ r ∈ l, r.at_ ≤ 4294967295) (t : List UInt8) : bodyT (bodyB N ++ t) = if 0 < t.length then ([], 4) else (N, 0) := by
  have h1 := (mayN_ok.1 h).1
  have ht := take_grp N.length (by omega) (sectsB N ++ t)
  have hd : (grp N.length ++ (sectsB N ++ t)).drop (gsize N.length) = sectsB N ++ t := List.drop_left' (grp_length _)
  have hr := netsA_sects N [] t (fit_of_net h hw)
  rw [List.nil_append] at hr
  unfold bodyT bodyB
  rw [List.append_assoc, ht]
  simp only [Int.toNat_natCast, hd, hr, ne_eq, not_true_eq_false, if_false]
  rw [if_neg (by omega)]
  unfold endT
  simp only [ne_eq, not_true_eq_false, if_false, h]
theorem bodyT_same {N : Nt} (h : mayN N = 0) (hw : ∀ l ∈ N, ∀ r ∈ l, r.at_ ≤ 4294967295) : bodyT (bodyB N) = (N, 0) := by
  have := bodyT_body h hw []
  rw [List.append_nil] at this
  exact this
theorem takeNf_frame (b : List UInt8) : takeNf (frameN magicN b) = bodyT b := by
  unfold takeNf
  rw [take_frame]
  rfl
theorem putNf_ok {N : Nt} (h : mayN N = 0) : putNf N = (frameN magicN (bodyB N), 0) := by unfold putNf; rw [if_neg (by simpa using h)]
theorem putNf_no {N : Nt} (h : mayN N ≠ 0) : putNf N = ([], mayN N) := by unfold putNf; rw [if_pos h]
theorem takeNf_put {N : Nt} (h : mayN N = 0) (hw : ∀ l ∈ N, ∀ r ∈ l, r.at_ ≤ 4294967295) : takeNf (putNf N).1 = (N, 0) := by
  rw [putNf_ok h, takeNf_frame, bodyT_same h hw]

/-! beginnings are no networks -/
theorem netsA_short : ∀ (N acc : Nt) (j : Nat), FitT N → j < (sectsB N).length → (netsA acc N.length ((sectsB N).take j)).2.2 ≠ 0
  | [], acc, j, _, hj => by simp [sectsB] at hj
  | l :: N, acc, j, h, hj => by
    obtain ⟨h1, h2⟩ := h l List.mem_cons_self
    simp only [List.length_cons, sectsB, netsA]
    rcases Nat.lt_or_ge j (sectB l).length with g | g
    · have e : (sectB l ++ sectsB N).take j = (sectB l).take j := List.take_append_of_le_length (by omega)
      have ho : openF 84 ((sectB l).take j) = ([], [], 2) := open_begin 84 (nodeB l) (nodeB_le h1) j g
      rw [e, ho]
      simp
    · have e : (sectB l ++ sectsB N).take j = sectB l ++ (sectsB N).take (j - (sectB l).length) := by rw [List.take_append, List.take_of_length_le g]
      rw [e, open_sectB h1, nodeT_node l h2 h1]
      simp only [ne_eq, not_true_eq_false, if_false]
      have hj2 : (sectsB (l :: N)).length = (sectB l).length + (sectsB N).length := by simp only [sectsB, List.length_append]
      exact netsA_short N (acc ++ [l]) (j - (sectB l).length) (fun x hx => h x (List.mem_cons_of_mem _ hx)) (by omega)
theorem endT_err {p : Nt × List UInt8 × Int} (h : p.2.2 ≠ 0) : endT p = ([], p.2.2) := if_pos h
theorem bodyT_short {N : Nt} (h : mayN N = 0) (hw : ∀ l ∈ N, ∀ r ∈ l, r.at_ ≤ 4294967295) {j : Nat} (hj : j < (bodyB N).length) : (bodyT ((bodyB N).take j)).2 ≠ 0 := by
  have h1 := (mayN_ok.1 h).1
  have hl : (bodyB N).length = gsize N.length + (sectsB N).length := by simp only [bodyB, List.length_append, grp_length]
  unfold bodyT
  rcases Nat.lt_or_ge j (gsize N.length) with g | g
  · have e : (bodyB N).take j = (grp N.length).take j := List.take_append_of_le_length (by rw [grp_length]; omega)
    rw [e, take_begin N.length j (by omega) g]
    simp
  · have e : (bodyB N).take j = grp N.length ++ (sectsB N).take (j - gsize N.length) := by unfold bodyB; rw [List.take_append, grp_length, List.take_of_length_le (by rw [grp_length]; exact g)]
    have hd : (grp N.length ++ (sectsB N).take (j - gsize N.length)).drop (gsize N.length) = (sectsB N).take (j - gsize N.length) := List.drop_left' (grp_length _)
    have hs := netsA_short N [] (j - gsize N.length) (fit_of_net h hw) (by omega)
    rw [e, take_grp N.length (by omega)]
    simp only [Int.toNat_natCast, hd, ne_eq, not_true_eq_false, if_false]
    rw [if_neg (by omega), endT_err hs]
    exact hs
theorem endT_none {p : Nt × List UInt8 × Int} (h : (endT p).2 ≠ 0) : (endT p).1 = [] := by
  unfold endT at h ⊢
  split
  · rfl
  · split
    · rfl
    · split
      · rfl
      · rename_i h1 h2 h3
        rw [if_neg h1, if_neg h2, if_neg h3] at h
        exact absurd rfl h
theorem bodyT_none {b : List UInt8} (h : (bodyT b).2 ≠ 0) : (bodyT b).1 = [] := by
  unfold bodyT at h ⊢
  split
  · rfl
  · split
    · rfl
    · rename_i h1 h2
      rw [if_neg h1, if_neg h2] at h
      exact endT_none h
theorem takeNf_none {b : List UInt8} (h : (takeNf b).2 ≠ 0) : (takeNf b).1 = [] := by
  unfold takeNf at h ⊢
  split
  · rfl
  · rename_i h1
    rw [if_neg h1] at h
    exact bodyT_none h
/-- of a network's bytes, cut short: no network -/
theorem takeNf_cut {N : Nt} (h : mayN N = 0) (hw : ∀ l ∈ N, ∀ r ∈ l, r.at_ ≤ 4294967295) {j : Nat} (hj : j < (putNf N).1.length) : (takeNf ((putNf N).1.take j)).2 ≠ 0 := by
  rw [putNf_ok h] at hj ⊢
  simp only at hj ⊢
  unfold takeNf
  by_cases ht : (takeF magicN ((frameN magicN (bodyB N)).take j)).2 = 0
  · have hf := taken_frame magicN _ ht
    have hlen : (takeF magicN ((frameN magicN (bodyB N)).take j)).1.length + 8 = j := by
      have h1 := congrArg List.length hf
      rw [frameN_length, List.length_take, Nat.min_eq_left (by omega)] at h1
      exact h1
    obtain ⟨c, hc⟩ : ∃ c, (takeF magicN ((frameN magicN (bodyB N)).take j)).1 = c := ⟨_, rfl⟩
    rw [hc] at hf hlen
    have hcut : c = (bodyB N).take (j - 8) := by
      have h4 := be_length 4 magicN
      have e1 : (frameN magicN c).take (4 + c.length) = be 4 magicN ++ c := by
        have := sealN_head (be 4 magicN ++ c)
        rw [List.length_append, h4] at this
        exact this
      have e2 : (frameN magicN (bodyB N)).take (4 + c.length) = be 4 magicN ++ (bodyB N).take c.length := by
        have h5 : c.length ≤ (bodyB N).length := by rw [frameN_length] at hj; omega
        have e3 : (frameN magicN (bodyB N)).take (4 + c.length) = (be 4 magicN ++ bodyB N).take (4 + c.length) := by
          unfold frameN sealN
          rw [List.take_append_of_le_length (by rw [List.length_append, h4]; omega)]
        rw [e3, List.take_append, h4, List.take_of_length_le (by omega), show 4 + c.length - 4 = c.length by omega]
      rw [hf, List.take_take, Nat.min_eq_left (by omega), e2] at e1
      have := List.append_cancel_left e1
      rw [show j - 8 = c.length by omega]
      exact this.symm
    rw [if_neg (by simpa using ht), hc, hcut]
    refine bodyT_short h hw ?_
    rw [frameN_length] at hj
    omega
  · rw [if_pos ht]
    exact ht

/-! what is taken is what was put -/
theorem flat_taken (b : List UInt8) (h : 8 ≤ b.length) : rbL (ofRul (takeR b).1) = b.take 8 := by
  have := rb_taken b h
  unfold rbL ofRul
  simp only [Int.toNat_natCast]
  exact this
theorem takeR_zero {b : List UInt8} (h : (takeR b).2 = 0) : 8 ≤ b.length := by
  rcases Nat.lt_or_ge b.length 8 with g | g
  · rw [takeR_short g] at h; cases h
  · exact g
theorem rulesA_taken : ∀ (n : Nat) (acc : List Rl) (b : List UInt8), (rulesA acc n b).2.2 = 0 → ∃ l, l.length = n ∧ (rulesA acc n b).1 = acc ++ l ∧ b = flatB l ++ (rulesA acc n b).2.1 ∧ ∀ r ∈ l, r.at_ ≤ 4294967295
  | 0, acc, b, _ => ⟨[], rfl, by simp [rulesA], by simp [rulesA, flatB], fun r hr => by cases hr⟩
  | n + 1, acc, b, h => by
    simp only [rulesA] at h ⊢
    by_cases ht : (takeR b).2 = 0
    · rw [if_neg (by simpa using ht)] at h ⊢
      have h8 := takeR_zero ht
      obtain ⟨l, e1, e2, e3, e4⟩ := rulesA_taken n _ _ h
      refine ⟨ofRul (takeR b).1 :: l, by simp [e1], by rw [e2, List.append_assoc]; rfl, ?_, fun r hr => ?_⟩
      · simp only [flatB]
        rw [flat_taken b h8, List.append_assoc, ← e3, List.take_append_drop]
      · rcases List.mem_cons.1 hr with rfl | hr
        · exact (takeR_le b).1
        · exact e4 r hr
    · rw [if_pos ht] at h
      exact absurd h ht
theorem grp_taken {b : List UInt8} (h : (takeG b).2.2 = 0) : ∃ n : Nat, n ≤ 268435455 ∧ takeG b = ((n : Int), (gsize n : Int), 0) ∧ b = grp n ++ b.drop (gsize n) := by
  rcases taken_grp b with ⟨n, h1, h2, _, h4⟩ | e | ⟨e, _⟩
  · exact ⟨n, h1, h2, by rw [← h4, List.take_append_drop]⟩
  · rw [e] at h; cases h
  · rw [e] at h; cases h
theorem nodeT_taken {b : List UInt8} (h : (nodeT b).2 = 0) : b = nodeB (nodeT b).1 ∧ (nodeT b).1.length ≤ 4096 ∧ ∀ r ∈ (nodeT b).1, r.at_ ≤ 4294967295 := by
  unfold nodeT at h ⊢
  by_cases h1 : (takeG b).2.2 = 0
  · rw [if_neg (by simpa using h1)] at h ⊢
    obtain ⟨n, hn, ht, hb⟩ := grp_taken h1
    rw [ht] at h ⊢
    simp only [Int.toNat_natCast] at h ⊢
    by_cases h2 : (4096 : Int) < n
    · rw [if_pos h2] at h; cases h
    · rw [if_neg h2] at h ⊢
      by_cases h3 : (rulesA [] n (b.drop (gsize n))).2.2 = 0
      · rw [if_neg (by simpa using h3)] at h ⊢
        obtain ⟨l, e1, e2, e3, e4⟩ := rulesA_taken n [] _ h3
        by_cases h4 : 0 < (rulesA [] n (b.drop (gsize n))).2.1.length
        · rw [if_pos h4] at h; cases h
        · rw [if_neg h4]
          have h5 : (rulesA [] n (b.drop (gsize n))).2.1 = [] := List.length_eq_zero_iff.1 (by omega)
          rw [h5, List.append_nil] at e3
          rw [e2, List.nil_append]
          refine ⟨?_, by omega, e4⟩
          unfold nodeB
          rw [e1, ← e3]
          exact hb
      · rw [if_pos h3] at h
        exact absurd h h3
  · rw [if_pos h1] at h
    exact absurd h h1
theorem open_taken {t : UInt8} {b : List UInt8} (h : (openF t b).2.2 = 0) : b = t :: (grp (openF t b).1.length ++ (openF t b).1) ++ (openF t b).2.1 ∧ (openF t b).1.length ≤ 268435455 := by
  cases b with
  | nil => cases h
  | cons x l =>
    unfold openF at h ⊢
    simp only at h ⊢
    by_cases h1 : x = t
    · rw [if_neg (by simpa using h1)] at h ⊢
      by_cases h2 : (takeG l).2.2 = 0
      · rw [if_neg (by simpa using h2)] at h ⊢
        obtain ⟨n, hn, ht, hb⟩ := grp_taken h2
        rw [ht] at h ⊢
        simp only [Int.toNat_natCast] at h ⊢
        by_cases h3 : ((l.drop (gsize n)).length : Int) < n
        · rw [if_pos h3] at h; cases h
        · rw [if_neg h3]
          simp only
          have h4 : ((l.drop (gsize n)).take n).length = n := by rw [List.length_take]; omega
          rw [h4]
          refine ⟨?_, hn⟩
          rw [List.cons_append, List.append_assoc, List.take_append_drop, ← hb, h1]
      · rw [if_pos h2] at h
        exact absurd h h2
    · rw [if_pos h1] at h
      cases h
theorem netsA_taken : ∀ (n : Nat) (acc : Nt) (b : List UInt8), (netsA acc n b).2.2 = 0 → ∃ N, N.length = n ∧ (netsA acc n b).1 = acc ++ N ∧ b = sectsB N ++ (netsA acc n b).2.1 ∧ ∀ l ∈ N, ∀ r ∈ l, r.at_ ≤ 4294967295
  | 0, acc, b, _ => ⟨[], rfl, by simp [netsA], by simp [netsA, sectsB], fun r hr => by cases hr⟩
  | n + 1, acc, b, h => by
    simp only [netsA] at h ⊢
    by_cases ho : (openF 84 b).2.2 = 0
    · rw [if_neg (by simpa using ho)] at h ⊢
      by_cases hn : (nodeT (openF 84 b).1).2 = 0
      · rw [if_neg (by simpa using hn)] at h ⊢
        obtain ⟨N, e1, e2, e3, e4⟩ := netsA_taken n _ _ h
        obtain ⟨o1, _⟩ := open_taken ho
        obtain ⟨t1, t2, t3⟩ := nodeT_taken hn
        refine ⟨(nodeT (openF 84 b).1).1 :: N, by simp [e1], by rw [e2, List.append_assoc]; rfl, ?_, fun l hl => ?_⟩
        · simp only [sectsB]
          unfold sectB
          rw [← t1, List.append_assoc, ← e3]
          exact o1
        · rcases List.mem_cons.1 hl with rfl | hl
          · exact t3
          · exact e4 l hl
      · rw [if_pos hn] at h
        exact absurd h hn
    · rw [if_pos ho] at h
      exact absurd h ho
theorem bodyT_taken {b : List UInt8} (h : (bodyT b).2 = 0) : b = bodyB (bodyT b).1 ∧ mayN (bodyT b).1 = 0 ∧ ∀ l ∈ (bodyT b).1, ∀ r ∈ l, r.at_ ≤ 4294967295 := by
  unfold bodyT at h ⊢
  by_cases h1 : (takeG b).2.2 = 0
  · rw [if_neg (by simpa using h1)] at h ⊢
    obtain ⟨n, hn, ht, hb⟩ := grp_taken h1
    rw [ht] at h ⊢
    simp only [Int.toNat_natCast] at h ⊢
    by_cases h2 : (256 : Int) < n
    · rw [if_pos h2] at h; cases h
    · rw [if_neg h2] at h ⊢
      unfold endT at h ⊢
      by_cases h3 : (netsA [] n (b.drop (gsize n))).2.2 = 0
      · rw [if_neg (by simpa using h3)] at h ⊢
        obtain ⟨N, e1, e2, e3, e4⟩ := netsA_taken n [] _ h3
        rw [List.nil_append] at e2
        by_cases h4 : 0 < (netsA [] n (b.drop (gsize n))).2.1.length
        · rw [if_pos h4] at h; cases h
        · rw [if_neg h4] at h ⊢
          have h5 : (netsA [] n (b.drop (gsize n))).2.1 = [] := List.length_eq_zero_iff.1 (by omega)
          rw [h5, List.append_nil] at e3
          rw [e2] at h ⊢
          by_cases h6 : mayN N = 0
          · rw [if_neg (by simpa using h6)]
            refine ⟨?_, h6, e4⟩
            simp only
            unfold bodyB
            rw [e1, ← e3]
            exact hb
          · rw [if_pos h6] at h
            exact absurd h h6
      · rw [if_pos h3] at h
        exact absurd h h3
  · rw [if_pos h1] at h
    exact absurd h h1
theorem takeNf_taken {b : List UInt8} (h : (takeNf b).2 = 0) : mayN (takeNf b).1 = 0 ∧ putNf (takeNf b).1 = (b, 0) ∧ ∀ l ∈ (takeNf b).1, ∀ r ∈ l, r.at_ ≤ 4294967295 := by
  unfold takeNf at h ⊢
  by_cases h1 : (takeF magicN b).2 = 0
  · rw [if_neg (by simpa using h1)] at h ⊢
    obtain ⟨e1, e2, e3⟩ := bodyT_taken h
    refine ⟨e2, ?_, e3⟩
    rw [putNf_ok e2, ← e1, taken_frame magicN b h1]
  · rw [if_pos h1] at h
    exact absurd h h1

/-! which errors are told of bytes that are held together -/
theorem takeG_err (b : List UInt8) : (takeG b).2.2 = 0 ∨ (takeG b).2.2 = 2 ∨ (takeG b).2.2 = 3 := by
  rcases taken_grp b with ⟨n, _, h, _⟩ | h | ⟨h, _⟩ <;> rw [h] <;> simp
theorem takeR_err (b : List UInt8) : (takeR b).2 = 0 ∨ (takeR b).2 = 2 := by
  unfold takeR
  split <;> simp
theorem rulesA_err : ∀ (n : Nat) (acc : List Rl) (b : List UInt8), (rulesA acc n b).2.2 = 0 ∨ (rulesA acc n b).2.2 = 2
  | 0, acc, b => .inl rfl
  | n + 1, acc, b => by
    simp only [rulesA]
    split
    · rename_i h
      rcases takeR_err b with e | e
      · exact absurd e h
      · exact .inr e
    · exact rulesA_err n _ _
def plainE (e : Int) : Prop := e ≠ 5 ∧ e ≠ 6
theorem nodeT_err (b : List UInt8) : plainE (nodeT b).2 := by
  unfold nodeT plainE
  have h1 := takeG_err b
  have h2 := rulesA_err (takeG b).1.toNat [] (b.drop (takeG b).2.1.toNat)
  split
  · omega
  · split
    · simp
    · split
      · omega
      · split <;> simp
theorem openF_err (t : UInt8) (b : List UInt8) : plainE (openF t b).2.2 := by
  unfold plainE
  cases b with
  | nil => simp [openF]
  | cons x l =>
    unfold openF
    simp only
    have h1 := takeG_err l
    split
    · simp
    · split
      · show (takeG l).2.2 ≠ 5 ∧ (takeG l).2.2 ≠ 6
        omega
      · split <;> simp
theorem netsA_err : ∀ (n : Nat) (acc : Nt) (b : List UInt8), plainE (netsA acc n b).2.2
  | 0, acc, b => by simp [netsA, plainE]
  | n + 1, acc, b => by
    simp only [netsA]
    split
    · exact openF_err 84 b
    · split
      · exact nodeT_err _
      · exact netsA_err n _ _
theorem mayI_err (a : Nat) (n : Int) : plainE (mayI a n) := by
  unfold mayI plainE
  split
  · simp
  · split <;> simp
theorem mayRl_err (r : Rl) (m : Int) : plainE (mayRl r m) := by
  unfold mayRl mayR
  split
  · exact mayI_err _ _
  · unfold plainE
    split
    · split <;> simp
    · split
      · split <;> simp
      · simp
theorem mayGo_err (m : Int) : ∀ (l : List Rl) (p : Option Rl), plainE (mayGo p l m)
  | [], p => by simp [mayGo, plainE]
  | r :: l, p => by
    rw [mayGo_cons]
    split
    · exact mayRl_err r m
    · cases p with
      | none => exact mayGo_err m l _
      | some q =>
        simp only
        split
        · simp [plainE]
        · exact mayGo_err m l _
theorem firstE_err (m : Int) : ∀ N : Nt, plainE (firstE m N)
  | [] => by simp [firstE, plainE]
  | l :: N => by
    unfold firstE
    split
    · exact mayGo_err m l none
    · exact firstE_err m N
theorem mayN_err (N : Nt) : plainE (mayN N) := by
  unfold mayN
  split
  · simp [plainE]
  · exact firstE_err _ N
theorem bodyT_err (b : List UInt8) : plainE (bodyT b).2 := by
  unfold bodyT
  have h1 := takeG_err b
  split
  · unfold plainE; omega
  · split
    · simp [plainE]
    · unfold endT
      split
      · exact netsA_err _ _ _
      · split
        · simp [plainE]
        · split
          · exact mayN_err _
          · simp [plainE]
/-! sizes -/
theorem sectB_le (l : List Rl) : (sectB l).length ≤ 9 + 8 * l.length := by
  have h1 := gsize_pos l.length
  have h2 := gsize_pos (nodeB l).length
  rw [sectB_length, nodeB_length]
  rw [nodeB_length] at h2
  omega
theorem sectsB_le (N : Nt) : (sectsB N).length ≤ 9 * N.length + 8 * szN N := by
  induction N with
  | nil => simp [sectsB]
  | cons l N ih =>
    have h1 := sectB_le l
    simp only [sectsB, List.length_append, List.length_cons, szN]
    omega
theorem bodyB_le (N : Nt) : (bodyB N).length ≤ 4 + 9 * N.length + 8 * szN N := by
  have h1 := gsize_pos N.length
  have h2 := sectsB_le N
  simp only [bodyB, List.length_append, grp_length]
  omega
theorem sectsB_ge (N : Nt) : 8 * szN N ≤ (sectsB N).length := by
  induction N with
  | nil => simp [szN]
  | cons l N ih =>
    have h1 := sectB_length l
    have h2 := nodeB_length l
    simp only [sectsB, List.length_append, szN]
    omega
theorem sectsB_take_succ (N : Nt) (k : Nat) (hk : k < N.length) : sectsB (N.take (k + 1)) = sectsB (N.take k) ++ sectB N[k] := by
  rw [List.take_succ_eq_append_getElem hk, sectsB_append]
  simp [sectsB]
theorem flatB_take_succ (l : List Rl) (k : Nat) (hk : k < l.length) : flatB (l.take (k + 1)) = flatB (l.take k) ++ rbL l[k] := by
  rw [List.take_succ_eq_append_getElem hk, flatB_append]
  simp [flatB]
end Go.Proofs.YtohggpaffmcfoaaDoor
end
section
namespace Go.Proofs.YtohggpaffmcfoaaDoor
set_option linter.unusedVariables false
set_option linter.unusedSimpArgs false
set_option maxRecDepth 100000

def rulesO : List UInt8 := [10, 0, 0, 0, 8, 2, 0, 0]
def oneO : List UInt8 := [84, 9, 1] ++ rulesO
def oddB (b : UInt8) : Nat → List UInt8
  | 0 => []
  | 1 => [128, b]
  | 2 => [130, 1, b]
  | 3 => [1, 84, 2, 160, 1]
  | 4 => [1, 83] ++ oneO.drop 1
  | 5 => [1, 84, 1, 1]
  | 6 => [1, 84, 9, 0] ++ rulesO
  | 7 => [2] ++ oneO
  | _ => [1, 84, 9, 1, 10, 0, 0, 1, 8, 2, 0, 0]
def oddE : Nat → Int
  | 0 => 2
  | 1 => 3
  | 2 => 12
  | 3 => 12
  | 4 => 3
  | 5 => 2
  | 6 => 4
  | 7 => 2
  | _ => 8
theorem odd_body8 (b : UInt8) : bodyT (oddB b 8) = ([], 8) := by
  have h2 : (bodyT [1, 84, 9, 1, 10, 0, 0, 1, 8, 2, 0, 0]).2 = 8 := by decide +kernel
  have h1 : (bodyT [1, 84, 9, 1, 10, 0, 0, 1, 8, 2, 0, 0]).1.isEmpty = true := by decide +kernel
  exact Prod.ext (List.isEmpty_iff.1 h1) h2
theorem odd_body (b : UInt8) (k : Nat) (hk : k < 9) : bodyT (oddB b k) = ([], oddE k) := by
  match k, hk with
  | 0, _ => rfl
  | 1, _ => rfl
  | 2, _ => rfl
  | 3, _ => rfl
  | 4, _ => rfl
  | 5, _ => rfl
  | 6, _ => rfl
  | 7, _ => rfl
  | 8, _ => exact odd_body8 b
theorem odd_take (b : UInt8) (k : Nat) (hk : k < 9) : takeNf (frameN magicN (oddB b k)) = ([], oddE k) := by rw [takeNf_frame, odd_body b k hk]
theorem odd_len (b : UInt8) (k : Nat) : (oddB b k).length ≤ 12 := by
  unfold oddB
  split <;> first | decide | simp
theorem one_take : takeNf (frameN magicN ([1] ++ oneO)) = ([[⟨167772160, 8, 2, 0⟩]], 0) := by rw [takeNf_frame]; rfl
theorem one_more (b : UInt8) : (takeNf (frameN magicN ([1] ++ oneO) ++ [b])).2 ≠ 0 := by
  have h : ∀ n : Fin 256, (takeNf (frameN magicN ([1] ++ oneO) ++ [UInt8.ofNat n.val])).2 ≠ 0 := by decide +kernel
  have := h ⟨b.toNat, b.toNat_lt⟩
  simpa using this
end Go.Proofs.YtohggpaffmcfoaaDoor
end
