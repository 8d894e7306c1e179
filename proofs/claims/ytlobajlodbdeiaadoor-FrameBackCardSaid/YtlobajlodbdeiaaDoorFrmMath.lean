/- Plain mathematics of layer 4: bytes with their sum behind them, what a frame holds, sections; bytes as one number, the lowest bit first, and why bits that are turned next to each other turn the sum. No function of the program is named here. -/
import Derived.Test.YtlobajlodbdeiaaDoorCrcMath
import Derived.Test.YtlobajlodbdeiaaDoorGroupMath
import Derived.Test.YtlobajlodbdeiaaDoorNumMath
namespace Go.Proofs.YtlobajlodbdeiaaDoor
set_option linter.unusedVariables false
set_option linter.unusedSimpArgs false

def sealN (l : List UInt8) : List UInt8 := l ++ be 4 (sumN l)
def frameN (m : Nat) (l : List UInt8) : List UInt8 := sealN (be 4 m ++ l)
def takeF (m : Nat) (l : List UInt8) : List UInt8 × Int :=
  if l.length < 8 then ([], 2)
  else if l.take 4 ≠ be 4 m then ([], 5)
  else if sealN (l.take (l.length - 4)) ≠ l then ([], 6)
  else ((l.take (l.length - 4)).drop 4, 0)
theorem sealN_length (l : List UInt8) : (sealN l).length = l.length + 4 := by simp [sealN, be_length]
theorem frameN_length (m : Nat) (l : List UInt8) : (frameN m l).length = l.length + 8 := by simp [frameN, sealN_length, be_length]; omega
theorem sumN_le (l : List UInt8) : sumN l ≤ 4294967295 := moreN_le 0 l
theorem sealN_head (l : List UInt8) : (sealN l).take l.length = l := by simp [sealN]
theorem sealN_eq (l : List UInt8) (n : Nat) (h : l.length = n + 4) : sealN (l.take n) = l ↔ val (l.drop n) = sumN (l.take n) := by
  constructor
  · intro h1
    have h2 : (sealN (l.take n)).drop n = l.drop n := by rw [h1]
    rw [sealN, List.drop_append_of_le_length (by rw [List.length_take]; omega), List.drop_of_length_le (by rw [List.length_take]; omega), List.nil_append] at h2
    rw [← h2]
    exact val_be_lt 4 _ (by have := sumN_le (l.take n); omega)
  · intro h1
    rw [sealN, ← h1]
    have h2 := be_val (l.drop n)
    rw [List.length_drop, show l.length - n = 4 from by omega] at h2
    rw [h2, List.take_append_drop]
theorem take_frame (m : Nat) (l : List UInt8) : takeF m (frameN m l) = (l, 0) := by
  have hl := frameN_length m l
  have h4 := be_length 4 m
  have h1 : (frameN m l).take 4 = be 4 m := by rw [frameN, sealN, List.append_assoc, List.take_append_of_le_length (by omega), List.take_of_length_le (by omega)]
  have h2 : (frameN m l).take ((frameN m l).length - 4) = be 4 m ++ l := by
    have h := sealN_head (be 4 m ++ l)
    rw [List.length_append, h4] at h
    rw [hl, show l.length + 8 - 4 = 4 + l.length from by omega]
    exact h
  rw [takeF, if_neg (by omega), if_neg (by rw [h1]; simp), h2, if_neg (by rw [← frameN]; simp)]
  rw [List.drop_append_of_le_length (by omega), List.drop_of_length_le (by omega), List.nil_append]
theorem take_other (m k : Nat) (l : List UInt8) (hm : m ≤ 4294967295) (hk : k ≤ 4294967295) (h : m ≠ k) : takeF k (frameN m l) = ([], 5) := by
  have hl := frameN_length m l
  have h4 := be_length 4 m
  have h1 : (frameN m l).take 4 = be 4 m := by rw [frameN, sealN, List.append_assoc, List.take_append_of_le_length (by omega), List.take_of_length_le (by omega)]
  rw [takeF, if_neg (by omega), if_pos]
  rw [h1]
  intro he
  exact h (be_inj (s := 4) (by omega) (by omega) he)
/-- What is taken is put to just these bytes. -/
theorem taken_frame (m : Nat) (l : List UInt8) (h : (takeF m l).2 = 0) : frameN m (takeF m l).1 = l := by
  unfold takeF at h ⊢
  split at h <;> rename_i h1
  · cases h
  split at h <;> rename_i h2
  · cases h
  split at h <;> rename_i h3
  · cases h
  rw [if_neg h1, if_neg h2, if_neg h3]
  have h2' : l.take 4 = be 4 m := Classical.not_not.1 h2
  have h3' : sealN (l.take (l.length - 4)) = l := Classical.not_not.1 h3
  show sealN (be 4 m ++ (l.take (l.length - 4)).drop 4) = l
  have h5 : be 4 m ++ (l.take (l.length - 4)).drop 4 = l.take (l.length - 4) := by
    have h6 := List.take_append_drop 4 (l.take (l.length - 4))
    rw [List.take_take, Nat.min_eq_left (by omega), h2'] at h6
    exact h6
  rw [h5]
  exact h3'
/-- of bytes with their own sum behind them -/
theorem take_sealed (m : Nat) (l : List UInt8) : takeF m (sealN l) = if l.length < 4 then ([], 2) else if l.take 4 ≠ be 4 m then ([], 5) else (l.drop 4, 0) := by
  have hl := sealN_length l
  by_cases h : l.length < 4
  · rw [takeF, if_pos (by omega), if_pos h]
  · rw [takeF, if_neg (by omega), if_neg h]
    have h1 : (sealN l).take 4 = l.take 4 := by rw [sealN, List.take_append_of_le_length (by omega)]
    have h2 : (sealN l).take ((sealN l).length - 4) = l := by
      rw [hl, Nat.add_sub_cancel]
      exact sealN_head l
    rw [h1, h2, if_neg (show ¬ sealN l ≠ sealN l from by simp)]
theorem frame_inj (m k : Nat) (a b : List UInt8) (hm : m ≤ 4294967295) (hk : k ≤ 4294967295) : frameN m a = frameN k b ↔ m = k ∧ a = b := by
  constructor
  · intro h
    by_cases he : m = k
    · subst he
      refine ⟨rfl, ?_⟩
      have h1 := take_frame m a
      rw [h, take_frame] at h1
      exact (Prod.mk.inj h1).1.symm
    · exfalso
      have h1 := take_other m k a hm hk he
      rw [h, take_frame] at h1
      have := (Prod.mk.inj h1).2
      omega
  · rintro ⟨rfl, rfl⟩
    rfl

/-! bytes as one number: the lowest bit of the first one first -/
def levN : List UInt8 → Nat
  | [] => 0
  | b :: l => b.toNat + 256 * levN l
theorem levN_lt : ∀ l : List UInt8, levN l < 2 ^ (8 * l.length)
  | [] => by simp [levN]
  | b :: l => by
    have h := levN_lt l
    have hb := b.toNat_lt
    rw [levN, List.length_cons, show 8 * (l.length + 1) = 8 * l.length + 8 from by omega, Nat.pow_add]
    omega
theorem levN_append : ∀ a b : List UInt8, levN (a ++ b) = levN a + 2 ^ (8 * a.length) * levN b
  | [], b => by simp [levN]
  | x :: a, b => by
    rw [List.cons_append, levN, levN, levN_append a b, List.length_cons, show 8 * (a.length + 1) = 8 + 8 * a.length from by omega, Nat.pow_add, Nat.mul_assoc]
    omega
theorem levN_inj : ∀ a b : List UInt8, a.length = b.length → levN a = levN b → a = b
  | [], [], _, _ => rfl
  | [], _ :: _, h, _ => by simp at h
  | _ :: _, [], h, _ => by simp at h
  | x :: a, y :: b, h, e => by
    rw [levN, levN] at e
    have hx := x.toNat_lt
    have hy := y.toNat_lt
    have h1 : x.toNat = y.toNat := by omega
    have h2 : levN a = levN b := by omega
    rw [levN_inj a b (by simpa using h) h2, UInt8.toNat_inj.1 h1]
theorem levN_take (l : List UInt8) (k : Nat) (h : k ≤ l.length) : levN (l.take k) = levN l % 2 ^ (8 * k) := by
  have h1 := levN_append (l.take k) (l.drop k)
  have h2 := levN_lt (l.take k)
  rw [List.length_take, Nat.min_eq_left h] at h1 h2
  rw [List.take_append_drop] at h1
  rw [h1, Nat.add_mul_mod_self_left, Nat.mod_eq_of_lt h2]
theorem levN_drop (l : List UInt8) (k : Nat) (h : k ≤ l.length) : levN (l.drop k) = levN l / 2 ^ (8 * k) := by
  have h1 := levN_append (l.take k) (l.drop k)
  have h2 := levN_lt (l.take k)
  rw [List.length_take, Nat.min_eq_left h] at h1 h2
  rw [List.take_append_drop] at h1
  rw [h1, Nat.add_mul_div_left _ _ (Nat.two_pow_pos _), Nat.div_eq_of_lt h2, Nat.zero_add]
theorem xor_low (x v c : Nat) (hc : c < 256) : x ^^^ (c + 256 * v) = (x ^^^ c) ^^^ (256 * v) := by
  have h := split_xor 8 (c + 256 * v)
  rw [show (2 : Nat) ^ 8 = 256 from rfl, show (c + 256 * v) / 256 = v from by omega, show (c + 256 * v) % 256 = c from by omega] at h
  rw [h, Nat.xor_assoc, Nat.xor_comm c]
/-- A row of steps is one row of half-turns of its number. -/
theorem runN_lev : ∀ (l : List UInt8) (s : Nat), runN s l = hfs (8 * l.length) (s ^^^ levN l)
  | [], s => by simp [runN, levN, hfs]
  | b :: l, s => by
    have h1 : runN s (b :: l) = runN (stepN s b.toNat) l := rfl
    rw [h1, runN_lev l, levN, xor_low _ _ _ b.toNat_lt, List.length_cons, show 8 * (l.length + 1) = 8 * l.length + 8 from by omega, ← hfs_add, hfs_xor 8, show hfs 8 (256 * levN l) = levN l from hfs_pow 8 _]
    rfl
theorem hf_pos (x : Nat) (h0 : 0 < x) (h : x < 4294967296) : 0 < hf x := by
  unfold hf
  split
  · have h1 : x / 2 < 2 ^ 31 := by omega
    have h2 : ((x / 2) ^^^ 2197175160) / 2 ^ 31 = 1 := by
      rw [Nat.xor_div_two_pow, Nat.div_eq_of_lt h1]
      decide
    rcases Nat.eq_zero_or_pos ((x / 2) ^^^ 2197175160) with h3 | h3
    · rw [h3] at h2
      cases h2
    · exact h3
  · omega
theorem hfs_pos : ∀ (k x : Nat), 0 < x → x < 4294967296 → 0 < hfs k x
  | 0, x, h0, _ => h0
  | k + 1, x, h0, h => by
    rw [hfs_up]
    exact hfs_pos k _ (hf_pos x h0 h) (hf_lt x h)
theorem hfs_burst (N f T : Nat) (hT : 0 < T) (hT2 : T < 4294967296) (h : f ≤ N) : 0 < hfs N (2 ^ f * T) := by
  rw [show N = (N - f) + f from by omega, ← hfs_add, hfs_pow]
  exact hfs_pos _ _ hT hT2
theorem flipN_inj {a b : Nat} (ha : a ≤ 4294967295) (hb : b ≤ 4294967295) (h : flipN a = flipN b) : a = b := by unfold flipN at h; omega
/-- Bits that are turned next to each other turn the sum. -/
theorem sum_burst (a b : List UInt8) (hl : a.length = b.length) (f T : Nat) (hT : 0 < T) (hT2 : T < 4294967296) (hf : f ≤ 8 * a.length) (h : levN b = levN a ^^^ (2 ^ f * T)) : sumN b ≠ sumN a := by
  intro he
  have h1 : runN 4294967295 b = runN 4294967295 a := by
    have e1 : flipN (runN 4294967295 b) = flipN (runN 4294967295 a) := he
    exact flipN_inj (runN_le _ _ (by omega)) (runN_le _ _ (by omega)) e1
  rw [runN_lev, runN_lev, h, ← hl, ← Nat.xor_assoc, hfs_xor _ (4294967295 ^^^ levN a)] at h1
  have h2 := hfs_burst (8 * a.length) f T hT hT2 hf
  have h3 : hfs (8 * a.length) (4294967295 ^^^ levN a) ^^^ (hfs (8 * a.length) (4294967295 ^^^ levN a) ^^^ hfs (8 * a.length) (2 ^ f * T)) = 0 := by rw [h1, Nat.xor_self]
  rw [← Nat.xor_assoc, Nat.xor_self, Nat.zero_xor] at h3
  omega
/-- WHAT IS SPOILT IS NOT SEALED. -/
theorem spoilt (a o : List UInt8) (hl : o.length = a.length + 4) (x : Nat) (hx : levN o = levN (sealN a) ^^^ x)
    (h : (∃ f T, x = 2 ^ f * T ∧ 0 < T ∧ T < 4294967296 ∧ f ≤ 8 * a.length ∧ x < 2 ^ (8 * a.length)) ∨ (∃ y, x = 2 ^ (8 * a.length) * y ∧ 0 < y)) : sealN (o.take a.length) ≠ o := by
  intro he
  have hs : (sealN a).length = a.length + 4 := sealN_length a
  have t1 := levN_take o a.length (by omega)
  have t2 := levN_take (sealN a) a.length (by omega)
  have d1 := levN_drop o a.length (by omega)
  have d2 := levN_drop (sealN a) a.length (by omega)
  rw [sealN_head] at t2
  rcases h with ⟨f, T, rfl, hT, hT2, hf, hlt⟩ | ⟨y, rfl, hy⟩
  · have e1 : levN (o.take a.length) = levN a ^^^ (2 ^ f * T) := by rw [t1, hx, Nat.xor_mod_two_pow, ← t2, Nat.mod_eq_of_lt hlt]
    have e2 : o.drop a.length = (sealN a).drop a.length := by
      refine levN_inj _ _ (by rw [List.length_drop, List.length_drop]; omega) ?_
      rw [d1, d2, hx, Nat.xor_div_two_pow, Nat.div_eq_of_lt hlt, Nat.xor_zero]
    have hb := sum_burst a (o.take a.length) (by rw [List.length_take]; omega) f T hT hT2 hf e1
    have e3 : o.drop a.length = be 4 (sumN (o.take a.length)) := by
      have := congrArg (List.drop a.length) he
      rw [sealN, List.drop_append_of_le_length (by rw [List.length_take]; omega), List.drop_of_length_le (by rw [List.length_take]; omega), List.nil_append] at this
      exact this.symm
    have e4 : (sealN a).drop a.length = be 4 (sumN a) := by
      rw [sealN, List.drop_append_of_le_length (by omega), List.drop_of_length_le (by omega), List.nil_append]
    rw [e3, e4] at e2
    exact hb (be_inj (s := 4) (by have := sumN_le (o.take a.length); omega) (by have := sumN_le a; omega) e2)
  · have e1 : o.take a.length = a := by
      refine levN_inj _ _ (by rw [List.length_take]; omega) ?_
      rw [t1, hx, Nat.xor_mod_two_pow, ← t2, Nat.mul_mod_right, Nat.xor_zero]
    rw [e1] at he
    rw [he] at hx
    have h3 : levN o ^^^ (levN o ^^^ 2 ^ (8 * a.length) * y) = 0 := by rw [← hx, Nat.xor_self]
    rw [← Nat.xor_assoc, Nat.xor_self, Nat.zero_xor] at h3
    have := Nat.mul_pos (Nat.two_pow_pos (8 * a.length)) hy
    omega
/-- Take of what is spoilt: another magic or another sum. -/
theorem take_spoilt (m k : Nat) (a o : List UInt8) (hl : o.length = a.length + 8) (x : Nat) (hx : levN o = levN (frameN m a) ^^^ x)
    (h : (∃ f T, x = 2 ^ f * T ∧ 0 < T ∧ T < 4294967296 ∧ x < 2 ^ (8 * (a.length + 4))) ∨ (∃ y, x = 2 ^ (8 * (a.length + 4)) * y ∧ 0 < y)) : takeF k o = ([], 5) ∨ takeF k o = ([], 6) := by
  have hb : (be 4 m ++ a).length = a.length + 4 := by rw [List.length_append, be_length]; omega
  have hn : sealN (o.take (o.length - 4)) ≠ o := by
    have := spoilt (be 4 m ++ a) o (by omega) x hx (by
      rw [hb]
      rcases h with ⟨f, T, e, hT, hT2, hlt⟩ | h
      · refine .inl ⟨f, T, e, hT, hT2, ?_, hlt⟩
        subst e
        have h1 : 2 ^ f ≤ 2 ^ f * T := Nat.le_mul_of_pos_right _ hT
        rcases Nat.lt_or_ge (8 * (a.length + 4)) f with h2 | h2
        · have := Nat.pow_lt_pow_right (a := 2) (by omega) h2
          omega
        · exact h2
      · exact .inr h)
    rw [hb] at this
    rw [show o.length - 4 = a.length + 4 from by omega]
    exact this
  unfold takeF
  rw [if_neg (by omega)]
  by_cases h1 : o.take 4 ≠ be 4 k
  · rw [if_pos h1]
    exact .inl rfl
  · rw [if_neg h1, if_pos hn]
    exact .inr rfl

/-! one bit of a byte turned -/
def turnB (l : List UInt8) (p : Nat) : List UInt8 := l.modify (p / 8) fun b => b ^^^ UInt8.ofNat (2 ^ (p % 8))
theorem turnB_length (l : List UInt8) (p : Nat) : (turnB l p).length = l.length := by simp [turnB]
theorem low_xor (b : UInt8) (j v : Nat) (hj : j < 8) : (b ^^^ UInt8.ofNat (2 ^ j)).toNat + 256 * v = (b.toNat + 256 * v) ^^^ 2 ^ j := by
  have h2 : (2 : Nat) ^ j < 256 := by have := Nat.pow_lt_pow_right (a := 2) (by omega) hj; omega
  have h3 : (UInt8.ofNat (2 ^ j)).toNat = 2 ^ j := toNat_ofNat_lt h2
  rw [UInt8.toNat_xor, h3, Nat.xor_comm (b.toNat + 256 * v), xor_low _ _ _ b.toNat_lt, Nat.xor_comm (2 ^ j)]
  have h4 : b.toNat ^^^ 2 ^ j < 256 := Nat.xor_lt_two_pow (n := 8) b.toNat_lt h2
  have h5 := xor_low 0 v (b.toNat ^^^ 2 ^ j) h4
  rw [Nat.zero_xor, Nat.zero_xor] at h5
  exact h5
theorem up_xor (c v y : Nat) (hc : c < 256) : c + 256 * (v ^^^ y) = (c + 256 * v) ^^^ (256 * y) := by
  have h1 := xor_low 0 v c hc
  have h2 := xor_low 0 (v ^^^ y) c hc
  rw [Nat.zero_xor, Nat.zero_xor] at h1 h2
  rw [h1, h2, Nat.xor_assoc]
  congr 1
  have := Nat.shiftLeft_xor_distrib (i := 8) (a := v) (b := y)
  rw [Nat.shiftLeft_eq, Nat.shiftLeft_eq, Nat.shiftLeft_eq] at this
  rw [Nat.mul_comm 256, Nat.mul_comm 256, Nat.mul_comm 256]
  exact this
theorem levN_turn : ∀ (l : List UInt8) (p : Nat), p < 8 * l.length → levN (turnB l p) = levN l ^^^ 2 ^ p
  | [], p, h => by simp at h
  | b :: l, p, h => by
    by_cases h8 : p < 8
    · have e : turnB (b :: l) p = (b ^^^ UInt8.ofNat (2 ^ p)) :: l := by
        unfold turnB
        rw [show p / 8 = 0 from by omega, show p % 8 = p from by omega]
        rfl
      rw [e, levN, levN, low_xor _ _ _ h8]
    · have e : turnB (b :: l) p = b :: turnB l (p - 8) := by
        unfold turnB
        rw [show p / 8 = (p - 8) / 8 + 1 from by omega, show (p - 8) % 8 = p % 8 from by omega]
        rfl
      rw [e, levN, levN, levN_turn l (p - 8) (by simp at h; omega), up_xor _ _ _ b.toNat_lt]
      congr 1
      rw [show p = 8 + (p - 8) from by omega, Nat.pow_add, show 8 + (p - 8) - 8 = p - 8 from by omega]
/-- so many of the turned bits, from `f` on -/
def burstN (t f : Nat) : Nat → List UInt8 → List UInt8
  | 0, l => l
  | k + 1, l => if t / 2 ^ k % 2 = 1 then turnB (burstN t f k l) (f + k) else burstN t f k l
theorem burstN_length (t f : Nat) (l : List UInt8) : ∀ k, (burstN t f k l).length = l.length
  | 0 => rfl
  | k + 1 => by
    unfold burstN
    split
    · rw [turnB_length, burstN_length t f l k]
    · exact burstN_length t f l k
theorem mod_up (t k : Nat) : t % 2 ^ (k + 1) = t % 2 ^ k + 2 ^ k * (t / 2 ^ k % 2) := by
  rw [Nat.pow_succ, Nat.mod_mul]
theorem levN_burst (t f : Nat) (l : List UInt8) : ∀ k, f + k ≤ 8 * l.length → levN (burstN t f k l) = levN l ^^^ (2 ^ f * (t % 2 ^ k))
  | 0, h => by simp [burstN, Nat.mod_one]
  | k + 1, h => by
    have ih := levN_burst t f l k (by omega)
    have hm := mod_up t k
    unfold burstN
    split <;> rename_i hb
    · rw [levN_turn _ _ (by rw [burstN_length]; omega), ih, Nat.xor_assoc]
      congr 1
      rw [hm, hb, Nat.mul_one, Nat.pow_add, Nat.add_comm (t % 2 ^ k)]
      have hlt : t % 2 ^ k < 2 ^ k := Nat.mod_lt _ (Nat.two_pow_pos k)
      have hx : 2 ^ k + t % 2 ^ k = 2 ^ k ^^^ (t % 2 ^ k) := by
        have h1 := split_xor k (2 ^ k + t % 2 ^ k)
        rw [show (2 ^ k + t % 2 ^ k) / 2 ^ k = 1 from by rw [Nat.add_div_left _ (Nat.two_pow_pos k), Nat.div_eq_of_lt hlt], Nat.add_mod_left, Nat.mod_mod, Nat.mul_one] at h1
        exact h1
      rw [hx, Nat.xor_comm (2 ^ f * _)]
      have := Nat.shiftLeft_xor_distrib (i := f) (a := 2 ^ k) (b := t % 2 ^ k)
      rw [Nat.shiftLeft_eq, Nat.shiftLeft_eq, Nat.shiftLeft_eq] at this
      rw [Nat.mul_comm (2 ^ f) (2 ^ k ^^^ _), this, Nat.mul_comm (2 ^ f) (2 ^ k), Nat.mul_comm (2 ^ f) (t % 2 ^ k)]
    · rw [ih, hm, show t / 2 ^ k % 2 = 0 from by omega, Nat.mul_zero, Nat.add_zero]

/-! sections -/
def sectF (tag : UInt8) (l : List UInt8) : List UInt8 × Int := if l.length ≤ 268435455 then (tag :: (grp l.length ++ l), 0) else ([], 1)
def openF (tag : UInt8) (l : List UInt8) : List UInt8 × List UInt8 × Int :=
  match l with
  | [] => ([], [], 2)
  | x :: t =>
    if x ≠ tag then ([], [], 3)
    else if (takeG t).2.2 ≠ 0 then ([], [], (takeG t).2.2)
    else if ((t.drop (takeG t).2.1.toNat).length : Int) < (takeG t).1 then ([], [], 2)
    else ((t.drop (takeG t).2.1.toNat).take (takeG t).1.toNat, (t.drop (takeG t).2.1.toNat).drop (takeG t).1.toNat, 0)
theorem open_sect (tag : UInt8) (l r : List UInt8) (h : l.length ≤ 268435455) : openF tag (tag :: (grp l.length ++ l) ++ r) = (l, r, 0) := by
  have e : tag :: (grp l.length ++ l) ++ r = tag :: (grp l.length ++ (l ++ r)) := by simp
  rw [e, openF]
  have ht := take_grp l.length h (l ++ r)
  rw [ht]
  have hd : (grp l.length ++ (l ++ r)).drop (gsize l.length) = l ++ r := by
    rw [List.drop_append_of_le_length (by rw [grp_length]; exact Nat.le_refl _), List.drop_of_length_le (by rw [grp_length]; exact Nat.le_refl _), List.nil_append]
  simp only [Int.toNat_natCast, hd, ne_eq, not_true_eq_false, if_false, List.length_append]
  rw [if_neg (by omega)]
  simp
theorem open_other (tag tag' : UInt8) (l : List UInt8) (h : tag ≠ tag') : openF tag' (tag :: l) = ([], [], 3) := by rw [openF, if_pos h]
theorem open_begin (tag : UInt8) (l : List UInt8) (h : l.length ≤ 268435455) (k : Nat) (hk : k < (tag :: (grp l.length ++ l)).length) : openF tag ((tag :: (grp l.length ++ l)).take k) = ([], [], 2) := by
  cases k with
  | zero => rfl
  | succ k =>
    rw [List.length_cons, List.length_append, grp_length] at hk
    rw [List.take_succ_cons, openF, if_neg (by simp)]
    by_cases h1 : k < gsize l.length
    · have e : (grp l.length ++ l).take k = (grp l.length).take k := by rw [List.take_append_of_le_length (by rw [grp_length]; omega)]
      rw [e, take_begin _ _ h h1]
      rfl
    · have e : (grp l.length ++ l).take k = grp l.length ++ l.take (k - gsize l.length) := by
        rw [List.take_append, grp_length, List.take_of_length_le (by rw [grp_length]; omega)]
      rw [e, take_grp _ h]
      have hd : (grp l.length ++ l.take (k - gsize l.length)).drop (gsize l.length) = l.take (k - gsize l.length) := by
        rw [List.drop_append_of_le_length (by rw [grp_length]; exact Nat.le_refl _), List.drop_of_length_le (by rw [grp_length]; exact Nat.le_refl _), List.nil_append]
      simp only [Int.toNat_natCast, hd, ne_eq, not_true_eq_false, if_false]
      rw [if_pos (by rw [List.length_take]; omega)]
end Go.Proofs.YtlobajlodbdeiaaDoor
