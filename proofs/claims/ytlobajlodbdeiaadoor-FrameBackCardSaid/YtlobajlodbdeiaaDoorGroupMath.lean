/- Plain words on groups of seven bits: 'grp': a number's bytes; 'takeG': the number that bytes begin with. No program. -/
import Derived.Test.YtlobajlodbdeiaaDoorNumMath
namespace Go.Proofs.YtlobajlodbdeiaaDoor
set_option linter.unusedVariables false
set_option linter.unusedSimpArgs false

/-- the k lowest groups of n, the highest one first, each 128 more -/
def hi : Nat → Nat → List UInt8
  | 0, _ => []
  | k + 1, n => hi k (n / 128) ++ [UInt8.ofNat (128 + n % 128)]
theorem hi_length (k : Nat) : ∀ n, (hi k n).length = k := by
  induction k with
  | zero => intro n; rfl
  | succ k ih => intro n; simp [hi, ih]
theorem hi_head (k : Nat) : ∀ n, hi (k + 1) n = UInt8.ofNat (128 + n / 128 ^ k % 128) :: hi k n := by
  induction k with
  | zero => intro n; simp [hi]
  | succ k ih =>
    intro n
    rw [hi, ih (n / 128), hi, List.cons_append, Nat.div_div_eq_div_mul, Nat.pow_succ, Nat.mul_comm]
/-- how many bytes n has -/
def gsize (n : Nat) : Nat := if n < 128 then 1 else if n < 16384 then 2 else if n < 2097152 then 3 else 4
/-- the bytes of n -/
def grp (n : Nat) : List UInt8 := hi (gsize n - 1) (n / 128) ++ [UInt8.ofNat (n % 128)]
theorem gsize_pos (n : Nat) : 1 ≤ gsize n ∧ gsize n ≤ 4 := by unfold gsize; split <;> (try split) <;> (try split) <;> omega
theorem grp_length (n : Nat) : (grp n).length = gsize n := by
  have := gsize_pos n
  simp only [grp, List.length_append, hi_length, List.length_singleton]
  omega
theorem size_cases (n : Nat) : (n < 128 ∧ gsize n = 1) ∨ (128 ≤ n ∧ n < 16384 ∧ gsize n = 2) ∨ (16384 ≤ n ∧ n < 2097152 ∧ gsize n = 3) ∨ (2097152 ≤ n ∧ gsize n = 4) := by
  unfold gsize
  split
  · left; omega
  · split
    · right; left; omega
    · split
      · right; right; left; omega
      · right; right; right; omega
/-- The bytes, one by one. -/
theorem grp_cases (n : Nat) (h : n ≤ 268435455) :
    (n < 128 ∧ gsize n = 1 ∧ grp n = [UInt8.ofNat n]) ∨
    (128 ≤ n ∧ n < 16384 ∧ gsize n = 2 ∧ grp n = [UInt8.ofNat (128 + n / 128), UInt8.ofNat (n % 128)]) ∨
    (16384 ≤ n ∧ n < 2097152 ∧ gsize n = 3 ∧ grp n = [UInt8.ofNat (128 + n / 16384), UInt8.ofNat (128 + n / 128 % 128), UInt8.ofNat (n % 128)]) ∨
    (2097152 ≤ n ∧ gsize n = 4 ∧ grp n = [UInt8.ofNat (128 + n / 2097152), UInt8.ofNat (128 + n / 16384 % 128), UInt8.ofNat (128 + n / 128 % 128), UInt8.ofNat (n % 128)]) := by
  rcases size_cases n with ⟨h1, h2⟩ | ⟨h1, h3, h2⟩ | ⟨h1, h3, h2⟩ | ⟨h1, h2⟩
  · left
    refine ⟨h1, h2, ?_⟩
    rw [grp, h2, Nat.mod_eq_of_lt h1]
    rfl
  · right; left
    refine ⟨h1, h3, h2, ?_⟩
    simp only [grp, h2, hi, List.nil_append, List.cons_append]
    rw [Nat.mod_eq_of_lt (show n / 128 < 128 by omega)]
  · right; right; left
    refine ⟨h1, h3, h2, ?_⟩
    simp only [grp, h2, hi, List.nil_append, List.cons_append, Nat.div_div_eq_div_mul]
    rw [show 128 * 128 = 16384 from rfl, Nat.mod_eq_of_lt (show n / 16384 < 128 by omega)]
  · right; right; right
    refine ⟨h1, h2, ?_⟩
    simp only [grp, h2, hi, List.nil_append, List.cons_append, Nat.div_div_eq_div_mul]
    rw [show 128 * (128 * 128) = 2097152 from rfl, show 128 * 128 = 16384 from rfl, Nat.mod_eq_of_lt (show n / 2097152 < 128 by omega)]
/-- the bytes are the groups with the last one's highest bit away -/
theorem grp_snoc (n : Nat) : ∃ l, l.length = gsize n - 1 ∧ hi (gsize n) n = l ++ [UInt8.ofNat (128 + n % 128)] ∧ grp n = l ++ [UInt8.ofNat (n % 128)] := by
  have := gsize_pos n
  obtain ⟨k, hk⟩ : ∃ k, gsize n = k + 1 := ⟨gsize n - 1, by omega⟩
  refine ⟨hi k (n / 128), by rw [hi_length]; omega, by rw [hk, hi], by rw [grp, hk]; rfl⟩
theorem pow128 (k : Nat) (h : k ≤ 4) : (k = 0 ∧ 128 ^ k = 1) ∨ (k = 1 ∧ 128 ^ k = 128) ∨ (k = 2 ∧ 128 ^ k = 16384) ∨ (k = 3 ∧ 128 ^ k = 2097152) ∨ (k = 4 ∧ 128 ^ k = 268435456) := by
  have : k = 0 ∨ k = 1 ∨ k = 2 ∨ k = 3 ∨ k = 4 := by omega
  rcases this with rfl | rfl | rfl | rfl | rfl <;> simp
/-- where Size's count ends -/
theorem size_end (n k : Nat) (hn : n ≤ 268435455) (hk : k ≤ 3) (h1 : n / 128 ^ (k + 1) = 0) (h2 : k = 0 ∨ n / 128 ^ k ≠ 0) : gsize n = k + 1 := by
  have : k = 0 ∨ k = 1 ∨ k = 2 ∨ k = 3 := by omega
  unfold gsize
  rcases this with rfl | rfl | rfl | rfl <;> simp at h1 h2
  · rw [if_pos (by omega)]
  · rw [if_neg (by omega), if_pos (by omega)]
  · rw [if_neg (by omega), if_neg (by omega), if_pos (by omega)]
  · rw [if_neg (by omega), if_neg (by omega), if_neg (by omega)]
theorem size_goes (n k : Nat) (hn : n ≤ 268435455) (hk : k ≤ 3) (h1 : n / 128 ^ (k + 1) ≠ 0) : k + 1 ≤ 3 := by
  have : k = 0 ∨ k = 1 ∨ k = 2 ∨ k = 3 := by omega
  rcases this with rfl | rfl | rfl | rfl
  · omega
  · omega
  · omega
  · exfalso
    apply h1
    exact Nat.div_eq_of_lt (by show n < 268435456; omega)
def sizeS (n : Int) : Int := if 0 ≤ n ∧ n ≤ 268435455 then (gsize n.toNat : Int) else 0
def putG (n : Int) : List UInt8 × Int := if 0 ≤ n ∧ n ≤ 268435455 then (grp n.toNat, 0) else ([], 1)

/-- what is told of bytes, i of which are seen, that are n so far -/
def takeR : Nat → Nat → List UInt8 → Int × Int × Int
  | _, _, [] => (0, 0, 2)
  | i, n, c :: l => if c.toNat < 128 then (((n * 128 + c.toNat : Nat) : Int), ((i + 1 : Nat) : Int), 0) else if (i = 0 ∧ c.toNat = 128) ∨ i = 3 then (0, 0, 3) else takeR (i + 1) (n * 128 + (c.toNat - 128)) l
def takeG (l : List UInt8) : Int × Int × Int := takeR 0 0 l

theorem toNat_ofNat_lt {n : Nat} (h : n < 256) : (UInt8.ofNat n).toNat = n := by rw [toNat_ofNat_mod]; omega
theorem takeR_last (i n : Nat) (c : UInt8) (l : List UInt8) (h : c.toNat < 128) : takeR i n (c :: l) = (((n * 128 + c.toNat : Nat) : Int), ((i + 1 : Nat) : Int), 0) := by rw [takeR, if_pos h]
theorem takeR_more (i n : Nat) (c : UInt8) (l : List UInt8) (h : 128 ≤ c.toNat) (h0 : i = 0 → c.toNat ≠ 128) (h3 : i ≠ 3) : takeR i n (c :: l) = takeR (i + 1) (n * 128 + (c.toNat - 128)) l := by
  rw [takeR, if_neg (by omega), if_neg (by omega)]
theorem takeR_form (i n : Nat) (c : UInt8) (l : List UInt8) (h : 128 ≤ c.toNat) (h0 : (i = 0 ∧ c.toNat = 128) ∨ i = 3) : takeR i n (c :: l) = (0, 0, 3) := by
  rw [takeR, if_neg (by omega), if_pos h0]
/-- What was put is taken, whatever stands behind. -/
theorem take_grp (n : Nat) (hn : n ≤ 268435455) (l : List UInt8) : takeG (grp n ++ l) = ((n : Int), (gsize n : Int), 0) := by
  unfold takeG
  rcases grp_cases n hn with ⟨h1, h2, h3⟩ | ⟨h1, h4, h2, h3⟩ | ⟨h1, h4, h2, h3⟩ | ⟨h1, h2, h3⟩
  · rw [h2, h3, List.cons_append, takeR_last _ _ _ _ (by rw [toNat_ofNat_lt (by omega)]; exact h1), toNat_ofNat_lt (by omega)]
    simp
  · rw [h2, h3, List.cons_append, List.cons_append]
    rw [takeR_more _ _ _ _ (by rw [toNat_ofNat_lt (by omega)]; omega) (by intro _; rw [toNat_ofNat_lt (by omega)]; omega) (by omega), toNat_ofNat_lt (by omega)]
    rw [takeR_last _ _ _ _ (by rw [toNat_ofNat_lt (by omega)]; omega), toNat_ofNat_lt (by omega)]
    congr 2
    omega
  · rw [h2, h3, List.cons_append, List.cons_append, List.cons_append]
    rw [takeR_more _ _ _ _ (by rw [toNat_ofNat_lt (by omega)]; omega) (by intro _; rw [toNat_ofNat_lt (by omega)]; omega) (by omega), toNat_ofNat_lt (by omega)]
    rw [takeR_more _ _ _ _ (by rw [toNat_ofNat_lt (by omega)]; omega) (by omega) (by omega), toNat_ofNat_lt (by omega)]
    rw [takeR_last _ _ _ _ (by rw [toNat_ofNat_lt (by omega)]; omega), toNat_ofNat_lt (by omega)]
    congr 2
    omega
  · rw [h2, h3, List.cons_append, List.cons_append, List.cons_append, List.cons_append]
    rw [takeR_more _ _ _ _ (by rw [toNat_ofNat_lt (by omega)]; omega) (by intro _; rw [toNat_ofNat_lt (by omega)]; omega) (by omega), toNat_ofNat_lt (by omega)]
    rw [takeR_more _ _ _ _ (by rw [toNat_ofNat_lt (by omega)]; omega) (by omega) (by omega), toNat_ofNat_lt (by omega)]
    rw [takeR_more _ _ _ _ (by rw [toNat_ofNat_lt (by omega)]; omega) (by omega) (by omega), toNat_ofNat_lt (by omega)]
    rw [takeR_last _ _ _ _ (by rw [toNat_ofNat_lt (by omega)]; omega), toNat_ofNat_lt (by omega)]
    congr 2
    omega
/-- each beginning of it is too short -/
theorem take_begin (n k : Nat) (hn : n ≤ 268435455) (hk : k < gsize n) : takeG ((grp n).take k) = (0, 0, 2) := by
  unfold takeG
  have h0 : k = 0 ∨ k = 1 ∨ k = 2 ∨ k = 3 := by have := gsize_pos n; omega
  rcases grp_cases n hn with ⟨h1, h2, h3⟩ | ⟨h1, h4, h2, h3⟩ | ⟨h1, h4, h2, h3⟩ | ⟨h1, h2, h3⟩
  all_goals
    rw [h3]
    rcases h0 with rfl | rfl | rfl | rfl
    all_goals first | omega | skip
    all_goals simp only [List.take_zero, List.take_succ_cons]
    all_goals try rfl
    all_goals rw [takeR_more _ _ _ _ (by rw [toNat_ofNat_lt (by omega)]; omega) (by intro _; rw [toNat_ofNat_lt (by omega)]; omega) (by omega), toNat_ofNat_lt (by omega)]
    all_goals try rfl
    all_goals rw [takeR_more _ _ _ _ (by rw [toNat_ofNat_lt (by omega)]; omega) (by omega) (by omega), toNat_ofNat_lt (by omega)]
    all_goals try rfl
    all_goals rw [takeR_more _ _ _ _ (by rw [toNat_ofNat_lt (by omega)]; omega) (by omega) (by omega), toNat_ofNat_lt (by omega)]
    all_goals rfl
theorem take_nought (l : List UInt8) : takeG (128 :: l) = (0, 0, 3) := takeR_form _ _ _ _ (by decide) (.inl ⟨rfl, rfl⟩)
/-- What is taken is what was put. -/
theorem taken_grp (l : List UInt8) :
    (∃ n : Nat, n ≤ 268435455 ∧ takeG l = ((n : Int), (gsize n : Int), 0) ∧ gsize n ≤ l.length ∧ l.take (gsize n) = grp n) ∨ (takeG l = (0, 0, 3)) ∨ (takeG l = (0, 0, 2) ∧ l.length < 4) := by
  unfold takeG
  have bd : ∀ c : UInt8, c.toNat < 256 := fun c => c.toNat_lt
  have ok : ∀ (n : Nat) (a r : List UInt8), n ≤ 268435455 → a = grp n → takeR 0 0 (a ++ r) = ((n : Int), (gsize n : Int), 0) ∧ gsize n ≤ (a ++ r).length ∧ (a ++ r).take (gsize n) = grp n := by
    intro n a r hn ha
    subst ha
    refine ⟨take_grp n hn r, by rw [List.length_append, grp_length]; omega, ?_⟩
    rw [← grp_length, List.take_left' rfl]
  have eqb : ∀ (c : UInt8) (m : Nat), c.toNat = m → c = UInt8.ofNat m := by
    intro c m h
    apply UInt8.toNat.inj
    rw [toNat_ofNat_lt (by have := bd c; omega), h]
  match l with
  | [] => exact .inr (.inr ⟨rfl, by simp⟩)
  | a :: l =>
    have ba := bd a
    by_cases ha : a.toNat < 128
    · left
      refine ⟨a.toNat, by omega, ?_⟩
      refine ok a.toNat [a] l (by omega) ?_
      rcases grp_cases a.toNat (by omega) with ⟨h1, h2, h3⟩ | ⟨h1, h4, h2, h3⟩ | ⟨h1, h4, h2, h3⟩ | ⟨h1, h2, h3⟩ <;> first | omega | skip
      rw [h3, ← eqb a _ rfl]
    · by_cases ha2 : a.toNat = 128
      · exact .inr (.inl (takeR_form _ _ _ _ (by omega) (.inl ⟨rfl, ha2⟩)))
      · rw [takeR_more 0 0 a l (by omega) (by omega) (by omega)]
        match l with
        | [] => exact .inr (.inr ⟨rfl, by simp⟩)
        | b :: l =>
          have bb := bd b
          by_cases hb : b.toNat < 128
          · left
            rw [← takeR_more 0 0 a (b :: l) (by omega) (by omega) (by omega)]
            refine ⟨(a.toNat - 128) * 128 + b.toNat, by omega, ?_⟩
            refine ok _ [a, b] l (by omega) ?_
            rcases grp_cases ((a.toNat - 128) * 128 + b.toNat) (by omega) with ⟨h1, h2, h3⟩ | ⟨h1, h4, h2, h3⟩ | ⟨h1, h4, h2, h3⟩ | ⟨h1, h2, h3⟩ <;> first | omega | skip
            rw [h3, ← eqb a _ (by omega), ← eqb b _ (by omega)]
          · rw [takeR_more 1 _ b l (by omega) (by omega) (by omega)]
            match l with
            | [] => exact .inr (.inr ⟨rfl, by simp⟩)
            | c :: l =>
              have bc := bd c
              by_cases hc : c.toNat < 128
              · left
                rw [← takeR_more 1 _ b (c :: l) (by omega) (by omega) (by omega), ← takeR_more 0 0 a (b :: c :: l) (by omega) (by omega) (by omega)]
                refine ⟨((a.toNat - 128) * 128 + (b.toNat - 128)) * 128 + c.toNat, by omega, ?_⟩
                refine ok _ [a, b, c] l (by omega) ?_
                rcases grp_cases (((a.toNat - 128) * 128 + (b.toNat - 128)) * 128 + c.toNat) (by omega) with ⟨h1, h2, h3⟩ | ⟨h1, h4, h2, h3⟩ | ⟨h1, h4, h2, h3⟩ | ⟨h1, h2, h3⟩ <;> first | omega | skip
                rw [h3, ← eqb a _ (by omega), ← eqb b _ (by omega), ← eqb c _ (by omega)]
              · rw [takeR_more 2 _ c l (by omega) (by omega) (by omega)]
                match l with
                | [] => exact .inr (.inr ⟨rfl, by simp⟩)
                | d :: l =>
                  have bd' := bd d
                  by_cases hd : d.toNat < 128
                  · left
                    rw [← takeR_more 2 _ c (d :: l) (by omega) (by omega) (by omega), ← takeR_more 1 _ b (c :: d :: l) (by omega) (by omega) (by omega), ← takeR_more 0 0 a (b :: c :: d :: l) (by omega) (by omega) (by omega)]
                    refine ⟨(((a.toNat - 128) * 128 + (b.toNat - 128)) * 128 + (c.toNat - 128)) * 128 + d.toNat, by omega, ?_⟩
                    refine ok _ [a, b, c, d] l (by omega) ?_
                    rcases grp_cases ((((a.toNat - 128) * 128 + (b.toNat - 128)) * 128 + (c.toNat - 128)) * 128 + d.toNat) (by omega) with ⟨h1, h2, h3⟩ | ⟨h1, h4, h2, h3⟩ | ⟨h1, h4, h2, h3⟩ | ⟨h1, h2, h3⟩ <;> first | omega | skip
                    rw [h3, ← eqb a _ (by omega), ← eqb b _ (by omega), ← eqb c _ (by omega), ← eqb d _ (by omega)]
                  · exact .inr (.inl (takeR_form _ _ _ _ (by omega) (.inr rfl)))
/-- No number's bytes begin with another one's. -/
theorem grp_free (x y : Nat) (hx : x ≤ 268435455) (hy : y ≤ 268435455) (h : (grp x).take (min (gsize x) (gsize y)) = (grp y).take (min (gsize x) (gsize y))) : x = y := by
  rcases Nat.le_total (gsize x) (gsize y) with hs | hs
  · rw [Nat.min_eq_left hs, List.take_of_length_le (by rw [grp_length]; exact Nat.le_refl _)] at h
    have h1 := take_grp x hx ((grp y).drop (gsize x))
    rw [h, List.take_append_drop] at h1
    have h2 := take_grp y hy []
    rw [List.append_nil, h1] at h2
    injection h2 with h2
    omega
  · rw [Nat.min_eq_right hs, List.take_of_length_le (l := grp y) (by rw [grp_length]; exact Nat.le_refl _)] at h
    have h1 := take_grp y hy ((grp x).drop (gsize y))
    rw [← h, List.take_append_drop] at h1
    have h2 := take_grp x hx []
    rw [List.append_nil, h1] at h2
    injection h2 with h2
    omega
/-- Of two numbers of one size the greater one has the greater bytes. -/
theorem grp_less (x y : Nat) (hx : x ≤ 268435455) (hy : y ≤ 268435455) (hs : gsize x = gsize y) : grp x < grp y ↔ x < y := by
  have lt1 : ∀ a b : Nat, a < 256 → b < 256 → (UInt8.ofNat a < UInt8.ofNat b ↔ a < b) := by
    intro a b ha hb
    rw [UInt8.lt_iff_toNat_lt, toNat_ofNat_lt ha, toNat_ofNat_lt hb]
  have eq1 : ∀ a b : Nat, a < 256 → b < 256 → (UInt8.ofNat a = UInt8.ofNat b ↔ a = b) := by
    intro a b ha hb
    constructor
    · intro h
      have := congrArg UInt8.toNat h
      rwa [toNat_ofNat_lt ha, toNat_ofNat_lt hb] at this
    · intro h
      rw [h]
  have nn : ¬ (([] : List UInt8) < []) := by simp
  rcases grp_cases x hx with ⟨h1, h2, h3⟩ | ⟨h1, h4, h2, h3⟩ | ⟨h1, h4, h2, h3⟩ | ⟨h1, h2, h3⟩ <;>
    rcases grp_cases y hy with ⟨g1, g2, g3⟩ | ⟨g1, g4, g2, g3⟩ | ⟨g1, g4, g2, g3⟩ | ⟨g1, g2, g3⟩ <;>
    first
      | (exfalso; omega)
      | skip
  · rw [h3, g3, List.cons_lt_cons_iff, lt1 _ _ (by omega) (by omega), eq1 _ _ (by omega) (by omega)]
    simp only [nn, and_false, or_false]
  · rw [h3, g3, List.cons_lt_cons_iff, lt1 _ _ (by omega) (by omega), eq1 _ _ (by omega) (by omega), List.cons_lt_cons_iff, lt1 _ _ (by omega) (by omega), eq1 _ _ (by omega) (by omega)]
    simp only [nn, and_false, or_false]
    omega
  · rw [h3, g3, List.cons_lt_cons_iff, lt1 _ _ (by omega) (by omega), eq1 _ _ (by omega) (by omega), List.cons_lt_cons_iff, lt1 _ _ (by omega) (by omega), eq1 _ _ (by omega) (by omega), List.cons_lt_cons_iff, lt1 _ _ (by omega) (by omega), eq1 _ _ (by omega) (by omega)]
    simp only [nn, and_false, or_false]
    omega
  · rw [h3, g3, List.cons_lt_cons_iff, lt1 _ _ (by omega) (by omega), eq1 _ _ (by omega) (by omega), List.cons_lt_cons_iff, lt1 _ _ (by omega) (by omega), eq1 _ _ (by omega) (by omega), List.cons_lt_cons_iff, lt1 _ _ (by omega) (by omega), eq1 _ _ (by omega) (by omega), List.cons_lt_cons_iff, lt1 _ _ (by omega) (by omega), eq1 _ _ (by omega) (by omega)]
    simp only [nn, and_false, or_false]
    omega
/-- the last byte, and those ahead of it -/
theorem grp_last (x : Nat) : (grp x)[gsize x - 1]? = some (UInt8.ofNat (x % 128)) := by
  obtain ⟨l, h1, _, h3⟩ := grp_snoc x
  rw [h3, ← h1, List.getElem?_append_right (Nat.le_refl _), Nat.sub_self]
  rfl
theorem hi_high (k : Nat) : ∀ n, ∀ b ∈ hi k n, 128 ≤ b.toNat := by
  induction k with
  | zero => intro n b hb; simp [hi] at hb
  | succ k ih =>
    intro n b hb
    rw [hi] at hb
    rcases List.mem_append.1 hb with hb | hb
    · exact ih _ b hb
    · rw [List.mem_singleton.1 hb, toNat_ofNat_lt (by omega)]
      omega
theorem size_up (x : Nat) (hx : x ≤ 268435455) (h : 128 ≤ x) : gsize (x / 128) + 1 = gsize x := by
  unfold gsize
  by_cases h1 : x < 16384
  · rw [if_pos (by omega), if_neg (by omega), if_pos h1]
  · by_cases h2 : x < 2097152
    · rw [if_neg (by omega), if_pos (by omega), if_neg (by omega), if_neg h1, if_pos h2]
    · rw [if_neg (by omega), if_neg (by omega), if_pos (by omega), if_neg (by omega), if_neg h1, if_neg h2]
theorem grp_up (x j : Nat) (hx : x ≤ 268435455) (h : 128 ≤ x) (hj : j < gsize (x / 128)) (a b : UInt8) (ha : (grp x)[j]? = some a) (hb : (grp (x / 128))[j]? = some b) : a.toNat = b.toNat ||| 128 := by
  have hsz := size_up x hx h
  have hj4 : j = 0 ∨ j = 1 ∨ j = 2 := by have := gsize_pos x; omega
  have or7 : ∀ y : Nat, y < 128 → y ||| 128 = 128 + y := by
    intro y hy
    have := Nat.shiftLeft_add_eq_or_of_lt (i := 7) (b := y) (by omega) 1
    rw [Nat.shiftLeft_eq, show (1 * 2 ^ 7 : Nat) = 128 from rfl] at this
    rw [Nat.or_comm]
    exact this.symm
  have or8 : ∀ y : Nat, y < 128 → (128 + y) ||| 128 = 128 + y := by
    intro y hy
    rw [← or7 y hy, Nat.or_assoc, Nat.or_self]
  rcases grp_cases x hx with ⟨h1, h2, h3⟩ | ⟨h1, h4, h2, h3⟩ | ⟨h1, h4, h2, h3⟩ | ⟨h1, h2, h3⟩ <;>
    rcases grp_cases (x / 128) (by omega) with ⟨g1, g2, g3⟩ | ⟨g1, g4, g2, g3⟩ | ⟨g1, g4, g2, g3⟩ | ⟨g1, g2, g3⟩ <;>
    first
      | (exfalso; omega)
      | skip
  all_goals
    rw [h3] at ha
    rw [g3] at hb
    rcases hj4 with rfl | rfl | rfl
  all_goals first | (exfalso; omega) | skip
  all_goals
    simp only [List.getElem?_cons_zero, List.getElem?_cons_succ, Option.some.injEq] at ha hb
    subst ha
    subst hb
    rw [toNat_ofNat_lt (by omega), toNat_ofNat_lt (by omega)]
    first
      | (rw [or7 _ (by omega)]; done)
      | (rw [or7 _ (by omega)]; omega)
      | (rw [or8 _ (by omega)]; done)
      | (rw [or8 _ (by omega)]; omega)
theorem or_seven (a b : Nat) (hb : b < 128) : (a * 128) ||| b = a * 128 + b := by
  have := Nat.shiftLeft_add_eq_or_of_lt (i := 7) (b := b) (by omega) a
  rw [Nat.shiftLeft_eq] at this
  exact this.symm
end Go.Proofs.YtlobajlodbdeiaaDoor
