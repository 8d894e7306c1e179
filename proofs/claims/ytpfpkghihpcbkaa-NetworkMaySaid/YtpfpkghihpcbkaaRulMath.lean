/- Plain words of layer 7: which rules may be, a rule's bytes, the rule of bytes. No program. -/
import Derived.Test.YtpfpkghihpcbkaaNumMath
import Derived.Test.YtpfpkghihpcbkaaPfxMath
namespace Go.Proofs.Ytpfpkghihpcbkaa
set_option linter.unusedVariables false
set_option linter.unusedSimpArgs false

/-- whether a rule may be: 0, or the first error -/
def mayR (a : Nat) (l c n nodes : Int) : Int :=
  if mayI a l ≠ 0 then mayI a l else if c = 1 then (if n < 0 ∨ nodes ≤ n then 10 else 0) else if c = 2 ∨ c = 3 then (if n = 0 then 0 else 10) else 9
theorem mayR_pfx {a : Nat} {l : Int} (c n nodes : Int) (h : mayI a l ≠ 0) : mayR a l c n nodes = mayI a l := by unfold mayR; rw [if_pos h]
theorem mayR_next {a : Nat} {l : Int} {n nodes : Int} (h : mayI a l = 0) (h2 : 0 ≤ n) (h3 : n < nodes) : mayR a l 1 n nodes = 0 := by
  unfold mayR; rw [if_neg (by simpa using h), if_pos rfl, if_neg (by omega)]
theorem mayR_next_no {a : Nat} {l : Int} {n nodes : Int} (h : mayI a l = 0) (h2 : n < 0 ∨ nodes ≤ n) : mayR a l 1 n nodes = 10 := by
  unfold mayR; rw [if_neg (by simpa using h), if_pos rfl, if_pos h2]
theorem mayR_end {a : Nat} {l c : Int} (nodes : Int) (h : mayI a l = 0) (hc : c = 2 ∨ c = 3) : mayR a l c 0 nodes = 0 := by
  unfold mayR; rw [if_neg (by simpa using h), if_neg (by omega), if_pos hc, if_pos rfl]
theorem mayR_end_no {a : Nat} {l c n : Int} (nodes : Int) (h : mayI a l = 0) (hc : c = 2 ∨ c = 3) (hn : n ≠ 0) : mayR a l c n nodes = 10 := by
  unfold mayR; rw [if_neg (by simpa using h), if_neg (by omega), if_pos hc, if_neg hn]
theorem mayR_act {a : Nat} {l c : Int} (n nodes : Int) (h : mayI a l = 0) (h1 : c ≠ 1) (h2 : c ≠ 2) (h3 : c ≠ 3) : mayR a l c n nodes = 9 := by
  unfold mayR; rw [if_neg (by simpa using h), if_neg h1, if_neg (by omega)]

/-- a rule's bytes, so many parts of it -/
def rb (a l c n : Nat) : Nat → List UInt8
  | 0 => []
  | 1 => be 4 a
  | 2 => be 4 a ++ be 1 l
  | 3 => be 4 a ++ be 1 l ++ be 1 c
  | _ => be 4 a ++ be 1 l ++ be 1 c ++ be 2 n
theorem rb_length (a l c n : Nat) : (rb a l c n 4).length = 8 := by simp [rb, be_length]
def fitR (l c n : Int) : Prop := (0 ≤ l ∧ l ≤ 255) ∧ (0 ≤ c ∧ c ≤ 255) ∧ (0 ≤ n ∧ n ≤ 65535)
instance (l c n : Int) : Decidable (fitR l c n) := by unfold fitR; infer_instance
/-- what Put tells -/
def putR (a : Nat) (l c n : Int) : List UInt8 × Int := if fitR l c n then (rb a l.toNat c.toNat n.toNat 4, 0) else ([], 1)
theorem putR_yes {a : Nat} {l c n : Int} (h : fitR l c n) : putR a l c n = (rb a l.toNat c.toNat n.toNat 4, 0) := if_pos h
theorem putR_no {a : Nat} {l c n : Int} (h : ¬ fitR l c n) : putR a l c n = ([], 1) := if_neg h
/-- what Take tells: address, length, action, node; an error -/
structure Rul where
  at_ : Nat
  len : Nat
  act : Nat
  nxt : Nat
def takeR (b : List UInt8) : Rul × Int :=
  if b.length < 8 then (⟨0, 0, 0, 0⟩, 2) else (⟨val (b.take 4), val ((b.drop 4).take 1), val ((b.drop 5).take 1), val ((b.drop 6).take 2)⟩, 0)
theorem takeR_short {b : List UInt8} (h : b.length < 8) : takeR b = (⟨0, 0, 0, 0⟩, 2) := if_pos h
theorem takeR_long {b : List UInt8} (h : 8 ≤ b.length) : takeR b = (⟨val (b.take 4), val ((b.drop 4).take 1), val ((b.drop 5).take 1), val ((b.drop 6).take 2)⟩, 0) := if_neg (by omega)
theorem val_take_le (l : List UInt8) (k m : Nat) (h : 256 ^ k = m + 1) : val (l.take k) ≤ m := by
  have := val_take_lt l k
  omega
theorem takeR_le (b : List UInt8) : (takeR b).1.at_ ≤ 4294967295 ∧ (takeR b).1.len ≤ 255 ∧ (takeR b).1.act ≤ 255 ∧ (takeR b).1.nxt ≤ 65535 := by
  unfold takeR
  split
  · exact ⟨Nat.zero_le _, Nat.zero_le _, Nat.zero_le _, Nat.zero_le _⟩
  · exact ⟨val_take_le _ 4 _ rfl, val_take_le _ 1 _ rfl, val_take_le _ 1 _ rfl, val_take_le _ 2 _ rfl⟩
theorem be_take (s : Nat) (l : List UInt8) (h : s ≤ l.length) : be s (val (l.take s)) = l.take s := by
  have := be_val (l.take s)
  rwa [List.length_take, Nat.min_eq_left h] at this
/-- any eight bytes are those of the rule that they are -/
theorem rb_taken (b : List UInt8) (h : 8 ≤ b.length) : rb (takeR b).1.at_ (takeR b).1.len (takeR b).1.act (takeR b).1.nxt 4 = b.take 8 := by
  rw [takeR_long h]
  show be 4 _ ++ be 1 _ ++ be 1 _ ++ be 2 _ = _
  rw [be_take 4 b (by omega), be_take 1 (b.drop 4) (by rw [List.length_drop]; omega), be_take 1 (b.drop 5) (by rw [List.length_drop]; omega), be_take 2 (b.drop 6) (by rw [List.length_drop]; omega)]
  rw [← List.take_add, ← List.take_add, ← List.take_add]
/-- a rule that fits is taken as it was put, whatever stands behind -/
theorem taken_rb (a l c n : Nat) (r : List UInt8) (ha : a ≤ 4294967295) (hl : l ≤ 255) (hc : c ≤ 255) (hn : n ≤ 65535) : takeR (rb a l c n 4 ++ r) = (⟨a, l, c, n⟩, 0) := by
  rw [takeR_long (by rw [List.length_append, rb_length]; omega)]
  have e1 : rb a l c n 4 ++ r = be 4 a ++ (be 1 l ++ (be 1 c ++ (be 2 n ++ r))) := by simp [rb, List.append_assoc]
  have t1 : (rb a l c n 4 ++ r).take 4 = be 4 a := by rw [e1, List.take_left' (be_length 4 a)]
  have d1 : (rb a l c n 4 ++ r).drop 4 = be 1 l ++ (be 1 c ++ (be 2 n ++ r)) := by rw [e1, List.drop_left' (be_length 4 a)]
  have d2 : (rb a l c n 4 ++ r).drop 5 = be 1 c ++ (be 2 n ++ r) := by rw [show 5 = 4 + 1 from rfl, ← List.drop_drop, d1, List.drop_left' (be_length 1 l)]
  have d3 : (rb a l c n 4 ++ r).drop 6 = be 2 n ++ r := by rw [show 6 = 5 + 1 from rfl, ← List.drop_drop, d2, List.drop_left' (be_length 1 c)]
  rw [t1, d1, d2, d3, List.take_left' (be_length 1 l), List.take_left' (be_length 1 c), List.take_left' (be_length 2 n), val_be_lt 4 a (by omega), val_be_lt 1 l (by omega), val_be_lt 1 c (by omega), val_be_lt 2 n (by omega)]
end Go.Proofs.Ytpfpkghihpcbkaa
