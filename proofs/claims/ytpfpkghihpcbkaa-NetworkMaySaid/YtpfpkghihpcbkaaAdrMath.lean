/- Plain mathematics of layer 5: texts of addresses, what they are parsed to, bits, first bits alike. -/
import Derived.Lib.ItoaNum
import Derived.Lib.BitFns
namespace Go.Proofs.Ytpfpkghihpcbkaa
open Go.Lib
set_option linter.unusedVariables false
set_option linter.unusedSimpArgs false

/-! numbers as digits -/
theorem u8_lt {n : Nat} (h : n < 256) : (UInt8.ofNat n).toNat = n := by
  rw [UInt8.toNat_ofNat']
  exact Nat.mod_eq_of_lt h
theorem u8_of {c : UInt8} {n : Nat} (h : c.toNat = n) : c = UInt8.ofNat n := by
  subst h
  simp
def isDig (c : UInt8) : Bool := decide (48 ≤ c.toNat ∧ c.toNat ≤ 57)
theorem isDig_iff (c : UInt8) : isDig c = true ↔ 48 ≤ c.toNat ∧ c.toNat ≤ 57 := by simp [isDig]
theorem isDig_of {n : Nat} (h : n < 10) : isDig (UInt8.ofNat (48 + n)) = true := by rw [isDig_iff, u8_lt (by omega)]; omega
theorem dot_dig : isDig 46 = false := by decide
abbrev dec (n : Nat) : List UInt8 := decDigits n
theorem dec_big {n : Nat} (h : ¬ n < 10) : dec n = dec (n / 10) ++ [UInt8.ofNat (48 + n % 10)] := by
  show decDigits n = _
  rw [decDigits, dif_neg h]
theorem dec_small {n : Nat} (h : n < 10) : dec n = [UInt8.ofNat (48 + n)] := decDigits_one h
theorem dec_pos (n : Nat) : 0 < (dec n).length := by rw [decDigits_length]; exact nDigits_pos n
theorem dec_three {n : Nat} (h1 : 100 ≤ n) (h2 : n < 1000) : dec n = [UInt8.ofNat (48 + n / 100), UInt8.ofNat (48 + n / 10 % 10), UInt8.ofNat (48 + n % 10)] := by
  rw [dec_big (by omega), dec_big (n := n / 10) (by omega), dec_small (n := n / 10 / 10) (by omega)]
  simp [Nat.div_div_eq_div_mul]
theorem dec_cases (n : Nat) (h : n < 256) : (n < 10 ∧ dec n = [UInt8.ofNat (48 + n)]) ∨ (10 ≤ n ∧ n < 100 ∧ dec n = [UInt8.ofNat (48 + n / 10), UInt8.ofNat (48 + n % 10)]) ∨
    (100 ≤ n ∧ dec n = [UInt8.ofNat (48 + n / 100), UInt8.ofNat (48 + n / 10 % 10), UInt8.ofNat (48 + n % 10)]) := by
  by_cases h1 : n < 10
  · exact .inl ⟨h1, dec_small h1⟩
  · by_cases h2 : n < 100
    · exact .inr (.inl ⟨by omega, h2, decDigits_two h1 h2⟩)
    · exact .inr (.inr ⟨by omega, dec_three (by omega) (by omega)⟩)
theorem dec_le3 (n : Nat) (h : n < 256) : (dec n).length ≤ 3 := by
  rcases dec_cases n h with ⟨_, e⟩ | ⟨_, _, e⟩ | ⟨_, e⟩ <;> rw [e] <;> simp
theorem dec_digs (n : Nat) : ∀ c ∈ dec n, isDig c = true := by
  induction n using Nat.strongRecOn with
  | _ n ih =>
    by_cases h : n < 10
    · rw [dec_small h]
      intro c hc
      rw [List.mem_singleton] at hc
      subst hc
      exact isDig_of h
    · rw [dec_big h]
      intro c hc
      rcases List.mem_append.1 hc with h1 | h1
      · exact ih _ (by omega) c h1
      · rw [List.mem_singleton] at h1
        subst h1
        exact isDig_of (by omega)
theorem dec_nodot (n : Nat) : (46 : UInt8) ∉ dec n := fun h => by
  have := dec_digs n _ h
  rw [dot_dig] at this
  cases this
/-- what digits are as a number -/
def valD (l : List UInt8) : Nat := l.foldl (fun n c => n * 10 + (c.toNat - 48)) 0
theorem valD_snoc (l : List UInt8) (c : UInt8) : valD (l ++ [c]) = valD l * 10 + (c.toNat - 48) := by simp [valD, List.foldl_append]
theorem valD_dec (n : Nat) : valD (dec n) = n := by
  induction n using Nat.strongRecOn with
  | _ n ih =>
    by_cases h : n < 10
    · rw [dec_small h]
      show 0 * 10 + _ = _
      rw [u8_lt (by omega)]
      omega
    · rw [dec_big h, valD_snoc, ih _ (by omega), u8_lt (by omega)]
      omega
theorem dec_inj {m n : Nat} (h : dec m = dec n) : m = n := by rw [← valD_dec m, h, valD_dec]

/-! four numbers with dots between -/
theorem split_dot : ∀ (x y r s : List UInt8), (46 : UInt8) ∉ x → (46 : UInt8) ∉ y → x ++ 46 :: r = y ++ 46 :: s → x = y ∧ r = s
  | [], [], r, s, _, _, h => ⟨rfl, by simpa using h⟩
  | [], c :: y, r, s, _, hy, h => by
    simp only [List.nil_append, List.cons_append, List.cons.injEq] at h
    exact absurd (by rw [← h.1]; simp) hy
  | c :: x, [], r, s, hx, _, h => by
    simp only [List.nil_append, List.cons_append, List.cons.injEq] at h
    exact absurd (by rw [h.1]; simp) hx
  | c :: x, d :: y, r, s, hx, hy, h => by
    simp only [List.cons_append, List.cons.injEq] at h
    obtain ⟨h1, h2⟩ := split_dot x y r s (fun h => hx (List.mem_cons_of_mem _ h)) (fun h => hy (List.mem_cons_of_mem _ h)) h.2
    exact ⟨by rw [h.1, h1], h2⟩
def txt4 (b0 b1 b2 b3 : Nat) : List UInt8 := dec b0 ++ 46 :: (dec b1 ++ 46 :: (dec b2 ++ 46 :: dec b3))
def byt (a k : Nat) : Nat := a / 256 ^ (3 - k) % 256
def txt (a : Nat) : List UInt8 := txt4 (byt a 0) (byt a 1) (byt a 2) (byt a 3)
theorem byt_lt (a k : Nat) : byt a k < 256 := Nat.mod_lt _ (by omega)
theorem byt0 (a : Nat) : byt a 0 = a / 16777216 % 256 := rfl
theorem byt1 (a : Nat) : byt a 1 = a / 65536 % 256 := rfl
theorem byt2 (a : Nat) : byt a 2 = a / 256 % 256 := rfl
theorem byt3 (a : Nat) : byt a 3 = a % 256 := by simp [byt]
/-- the text of the first k numbers, each but the last with a dot behind it -/
def pre (a : Nat) : Nat → List UInt8
  | 0 => []
  | k + 1 => pre a k ++ dec (byt a k) ++ (if k < 3 then [46] else [])
theorem pre_four (a : Nat) : pre a 4 = txt a := by simp [pre, txt, txt4]
theorem pre_le (a k : Nat) : (pre a k).length ≤ 4 * k := by
  induction k with
  | zero => simp [pre]
  | succ k ih =>
    have := dec_le3 (byt a k) (byt_lt a k)
    rw [pre]
    split <;> simp <;> omega
theorem txt_le (a : Nat) : (txt a).length ≤ 15 := by
  have h0 := dec_le3 (byt a 0) (byt_lt a 0)
  have h1 := dec_le3 (byt a 1) (byt_lt a 1)
  have h2 := dec_le3 (byt a 2) (byt_lt a 2)
  have h3 := dec_le3 (byt a 3) (byt_lt a 3)
  simp only [txt, txt4, List.length_append, List.length_cons]
  omega
/-- the reference's way: from the lowest number on -/
def post (a : Nat) : Nat → List UInt8
  | 0 => []
  | k + 1 => dec (a / 256 ^ k % 256) ++ (if k = 0 then post a k else 46 :: post a k)
theorem post_four (a : Nat) : post a 4 = txt a := by simp [post, txt, txt4, byt]

/-! what a text is parsed to -/
def st (A n : Nat) : Nat := (A * 256 + n) % 4294967296
/-- the rest of a text, from a label on (0: a number begins, 1: one goes on, 2: one has ended), with what was parsed ahead -/
def pr : Nat → List UInt8 → Nat → Nat → Nat → Option Nat
  | s, [], A, n, e => if s = 0 then none else if e + 1 = 4 then some (st A n) else none
  | s, c :: r, A, n, e =>
    if s = 0 then (if isDig c then (if c.toNat = 48 then pr 2 r A 0 e else pr 1 r A (c.toNat - 48) e) else none)
    else if s = 1 ∧ isDig c then (if 10 * n + (c.toNat - 48) ≤ 255 then pr 1 r A (10 * n + (c.toNat - 48)) e else none)
    else if c.toNat = 46 then pr 0 r (st A n) n (e + 1) else none
def parseN (l : List UInt8) : Option Nat := pr 0 l 0 0 0

theorem pr_first_no (r : List UInt8) (A n e : Nat) (h : ∀ c r', r = c :: r' → isDig c = false) : pr 0 r A n e = none := by
  cases r with
  | nil => simp [pr]
  | cons c r => simp [pr, h c r rfl]
theorem pr_first_zero (c : UInt8) (r : List UInt8) (A n e : Nat) (h : c.toNat = 48) : pr 0 (c :: r) A n e = pr 2 r A 0 e := by
  have : isDig c = true := by rw [isDig_iff]; omega
  simp [pr, this, h]
theorem pr_first_more (c : UInt8) (r : List UInt8) (A n e : Nat) (h1 : isDig c = true) (h : c.toNat ≠ 48) : pr 0 (c :: r) A n e = pr 1 r A (c.toNat - 48) e := by
  simp [pr, h1, h]
theorem pr_more_dig (c : UInt8) (r : List UInt8) (A n e : Nat) (h1 : isDig c = true) (h : 10 * n + (c.toNat - 48) ≤ 255) : pr 1 (c :: r) A n e = pr 1 r A (10 * n + (c.toNat - 48)) e := by
  simp [pr, h1, h]
theorem pr_more_no (c : UInt8) (r : List UInt8) (A n e : Nat) (h1 : isDig c = true) (h : ¬ 10 * n + (c.toNat - 48) ≤ 255) : pr 1 (c :: r) A n e = none := by
  simp only [pr]
  rw [if_neg (by omega), if_pos (by simp [h1]), if_neg h]
theorem pr_more_end (r : List UInt8) (A n e : Nat) (h : ∀ c r', r = c :: r' → isDig c = false) : pr 1 r A n e = pr 2 r A n e := by
  cases r with
  | nil => simp [pr]
  | cons c r => simp [pr, h c r rfl]
theorem pr_end_dot (c : UInt8) (r : List UInt8) (A n e : Nat) (h : c.toNat = 46) : pr 2 (c :: r) A n e = pr 0 r (st A n) n (e + 1) := by simp [pr, h]
theorem pr_end_other (c : UInt8) (r : List UInt8) (A n e : Nat) (h : c.toNat ≠ 46) : pr 2 (c :: r) A n e = none := by simp [pr, h]
theorem pr_end_ok (A n e : Nat) (h : e + 1 = 4) : pr 2 [] A n e = some (st A n) := by simp [pr, h]
theorem pr_end_few (A n e : Nat) (h : e + 1 ≠ 4) : pr 2 [] A n e = none := by simp only [pr]; rw [if_neg (by omega), if_neg h]

theorem nodig_dot (r : List UInt8) : ∀ c r', (46 :: r) = c :: r' → isDig c = false := by
  intro c r' h
  injection h with h1 h2
  rw [← h1]
  exact dot_dig
theorem nodig_nil : ∀ (c : UInt8) r', ([] : List UInt8) = c :: r' → isDig c = false := by
  intro c r' h
  cases h
/-- a number below 256 is read whole, if no digit follows -/
theorem pr_dec (m : Nat) (hm : m < 256) (tl : List UInt8) (A n e : Nat) (ht : ∀ c r', tl = c :: r' → isDig c = false) : pr 0 (dec m ++ tl) A n e = pr 2 tl A m e := by
  rcases dec_cases m hm with ⟨h, eq⟩ | ⟨h, h2, eq⟩ | ⟨h, eq⟩
  · rw [eq]
    have hc : (UInt8.ofNat (48 + m)).toNat = 48 + m := u8_lt (by omega)
    by_cases h0 : m = 0
    · subst h0
      exact pr_first_zero _ _ _ _ _ hc
    · show pr 0 (_ :: tl) A n e = _
      rw [pr_first_more _ _ _ _ _ (isDig_of h) (by omega), pr_more_end _ _ _ _ ht, hc]
      congr 1
      omega
  · rw [eq]
    have hc : (UInt8.ofNat (48 + m / 10)).toNat = 48 + m / 10 := u8_lt (by omega)
    have hd : (UInt8.ofNat (48 + m % 10)).toNat = 48 + m % 10 := u8_lt (by omega)
    show pr 0 (_ :: _ :: tl) A n e = _
    rw [pr_first_more _ _ _ _ _ (isDig_of (by omega)) (by omega), pr_more_dig _ _ _ _ _ (isDig_of (by omega)) (by omega), pr_more_end _ _ _ _ ht, hc, hd]
    congr 1
    omega
  · rw [eq]
    have hc : (UInt8.ofNat (48 + m / 100)).toNat = 48 + m / 100 := u8_lt (by omega)
    have hd : (UInt8.ofNat (48 + m / 10 % 10)).toNat = 48 + m / 10 % 10 := u8_lt (by omega)
    have hf : (UInt8.ofNat (48 + m % 10)).toNat = 48 + m % 10 := u8_lt (by omega)
    show pr 0 (_ :: _ :: _ :: tl) A n e = _
    rw [pr_first_more _ _ _ _ _ (isDig_of (by omega)) (by omega), pr_more_dig _ _ _ _ _ (isDig_of (by omega)) (by omega), pr_more_dig _ _ _ _ _ (isDig_of (by omega)) (by omega), pr_more_end _ _ _ _ ht, hc, hd, hf]
    congr 1
    omega
theorem st_four (b0 b1 b2 b3 : Nat) (h0 : b0 < 256) (h1 : b1 < 256) (h2 : b2 < 256) (h3 : b3 < 256) : st (st (st (st 0 b0) b1) b2) b3 = b0 * 16777216 + b1 * 65536 + b2 * 256 + b3 := by
  unfold st
  omega
theorem parse_txt4 (b0 b1 b2 b3 : Nat) (h0 : b0 < 256) (h1 : b1 < 256) (h2 : b2 < 256) (h3 : b3 < 256) : parseN (txt4 b0 b1 b2 b3) = some (b0 * 16777216 + b1 * 65536 + b2 * 256 + b3) := by
  have e := pr_dec b3 h3 [] (st (st (st 0 b0) b1) b2) b2 3 nodig_nil
  rw [List.append_nil] at e
  rw [parseN, txt4, pr_dec _ h0 _ _ _ _ (nodig_dot _), pr_end_dot _ _ _ _ _ rfl, pr_dec _ h1 _ _ _ _ (nodig_dot _), pr_end_dot _ _ _ _ _ rfl, pr_dec _ h2 _ _ _ _ (nodig_dot _), pr_end_dot _ _ _ _ _ rfl, e, pr_end_ok _ _ _ rfl, st_four _ _ _ _ h0 h1 h2 h3]
theorem parse_txt (a : Nat) (h : a < 4294967296) : parseN (txt a) = some a := by
  rw [txt, parse_txt4 _ _ _ _ (byt_lt _ _) (byt_lt _ _) (byt_lt _ _) (byt_lt _ _), byt0, byt1, byt2, byt3]
  congr 1
  omega
/-- what begins as a number does: the number, and what is behind it -/
theorem pr_num (r : List UInt8) (A n e a : Nat) (h : pr 0 r A n e = some a) : ∃ m tl, m < 256 ∧ r = dec m ++ tl ∧ pr 2 tl A m e = some a := by
  cases r with
  | nil => simp [pr] at h
  | cons c r =>
    by_cases hd : isDig c = true
    · have hc := (isDig_iff c).1 hd
      by_cases h0 : c.toNat = 48
      · rw [pr_first_zero _ _ _ _ _ h0] at h
        refine ⟨0, r, by omega, ?_, h⟩
        rw [dec_small (by omega), u8_of h0]
        rfl
      · rw [pr_first_more _ _ _ _ _ hd h0] at h
        obtain ⟨v, hv⟩ : ∃ v, c.toNat = 48 + v := ⟨c.toNat - 48, by omega⟩
        rw [hv, Nat.add_sub_cancel_left] at h
        have hcv := u8_of hv
        by_cases hr : ∃ d r', r = d :: r' ∧ isDig d = true
        · obtain ⟨d, r', rfl, hdd⟩ := hr
          have hd2 := (isDig_iff d).1 hdd
          obtain ⟨u, hu⟩ : ∃ u, d.toNat = 48 + u := ⟨d.toNat - 48, by omega⟩
          have hdu := u8_of hu
          rw [pr_more_dig _ _ _ _ _ hdd (by omega), hu, Nat.add_sub_cancel_left] at h
          by_cases hr2 : ∃ f r2, r' = f :: r2 ∧ isDig f = true
          · obtain ⟨f, r2, rfl, hff⟩ := hr2
            have hf2 := (isDig_iff f).1 hff
            obtain ⟨t, ht⟩ : ∃ t, f.toNat = 48 + t := ⟨f.toNat - 48, by omega⟩
            have hft := u8_of ht
            by_cases hle : 10 * (10 * v + u) + (f.toNat - 48) ≤ 255
            · rw [pr_more_dig _ _ _ _ _ hff hle, ht, Nat.add_sub_cancel_left] at h
              rw [ht, Nat.add_sub_cancel_left] at hle
              by_cases hr3 : ∃ g r3, r2 = g :: r3 ∧ isDig g = true
              · obtain ⟨g, r3, rfl, hgg⟩ := hr3
                rw [pr_more_no _ _ _ _ _ hgg (by omega)] at h
                cases h
              · rw [pr_more_end _ _ _ _ (fun g r3 hg => by cases hb : isDig g with | false => rfl | true => exact absurd ⟨g, r3, hg, hb⟩ hr3)] at h
                refine ⟨10 * (10 * v + u) + t, r2, by omega, ?_, h⟩
                rw [dec_three (by omega) (by omega), hcv, hdu, hft]
                rw [show (10 * (10 * v + u) + t) / 100 = v by omega, show (10 * (10 * v + u) + t) / 10 % 10 = u by omega, show (10 * (10 * v + u) + t) % 10 = t by omega]
                rfl
            · rw [pr_more_no _ _ _ _ _ hff hle] at h
              cases h
          · rw [pr_more_end _ _ _ _ (fun g r3 hg => by cases hb : isDig g with | false => rfl | true => exact absurd ⟨g, r3, hg, hb⟩ hr2)] at h
            refine ⟨10 * v + u, r', by omega, ?_, h⟩
            rw [show dec (10 * v + u) = _ from decDigits_two (by omega) (by omega), hcv, hdu, show (10 * v + u) / 10 = v by omega, show (10 * v + u) % 10 = u by omega]
            rfl
        · rw [pr_more_end _ _ _ _ (fun g r3 hg => by cases hb : isDig g with | false => rfl | true => exact absurd ⟨g, r3, hg, hb⟩ hr)] at h
          refine ⟨v, r, by omega, ?_, h⟩
          rw [dec_small (by omega), hcv]
          rfl
    · rw [pr_first_no _ _ _ _ (fun c' r' hc => by injection hc with h1 h2; subst h1; simpa using hd)] at h
      cases h
/-- behind a number: the end, behind four of them; or a dot, and another one -/
theorem pr_tail (tl : List UInt8) (A n e a : Nat) (h : pr 2 tl A n e = some a) : (tl = [] ∧ e = 3 ∧ a = st A n) ∨ ∃ r, tl = 46 :: r ∧ pr 0 r (st A n) n (e + 1) = some a := by
  cases tl with
  | nil =>
    by_cases h4 : e + 1 = 4
    · rw [pr_end_ok _ _ _ h4] at h
      injection h with h
      exact .inl ⟨rfl, by omega, h.symm⟩
    · rw [pr_end_few _ _ _ h4] at h
      cases h
  | cons c r =>
    by_cases h4 : c.toNat = 46
    · rw [pr_end_dot _ _ _ _ _ h4] at h
      refine .inr ⟨r, ?_, h⟩
      rw [u8_of h4]
      rfl
    · rw [pr_end_other _ _ _ _ _ h4] at h
      cases h
theorem pr_late : ∀ (k : Nat) (r : List UInt8), r.length ≤ k → ∀ A n e, 4 ≤ e → pr 0 r A n e = none
  | k, r, hk, A, n, e, he => by
    cases hp : pr 0 r A n e with
    | none => rfl
    | some a =>
      obtain ⟨m, tl, hm, rfl, h2⟩ := pr_num _ _ _ _ _ hp
      rcases pr_tail _ _ _ _ _ h2 with ⟨_, h3, _⟩ | ⟨r, rfl, h3⟩
      · omega
      · have hl := dec_pos m
        simp only [List.length_append, List.length_cons] at hk
        cases k with
        | zero => omega
        | succ k =>
          rw [pr_late k r (by omega) _ _ _ (by omega)] at h3
          cases h3
theorem parse_some (l : List UInt8) (a : Nat) (h : parseN l = some a) : a < 4294967296 ∧ l = txt a := by
  obtain ⟨b0, t0, h0, rfl, g0⟩ := pr_num _ _ _ _ _ h
  rcases pr_tail _ _ _ _ _ g0 with ⟨_, h3, _⟩ | ⟨r0, rfl, k0⟩
  · omega
  obtain ⟨b1, t1, h1, rfl, g1⟩ := pr_num _ _ _ _ _ k0
  rcases pr_tail _ _ _ _ _ g1 with ⟨_, h3, _⟩ | ⟨r1, rfl, k1⟩
  · omega
  obtain ⟨b2, t2, h2, rfl, g2⟩ := pr_num _ _ _ _ _ k1
  rcases pr_tail _ _ _ _ _ g2 with ⟨_, h3, _⟩ | ⟨r2, rfl, k2⟩
  · omega
  obtain ⟨b3, t3, h3, rfl, g3⟩ := pr_num _ _ _ _ _ k2
  rcases pr_tail _ _ _ _ _ g3 with ⟨rfl, _, e⟩ | ⟨r3, rfl, k3⟩
  · rw [st_four _ _ _ _ h0 h1 h2 h3] at e
    refine ⟨by omega, ?_⟩
    rw [List.append_nil, txt, byt0, byt1, byt2, byt3, e]
    rw [show (b0 * 16777216 + b1 * 65536 + b2 * 256 + b3) / 16777216 % 256 = b0 by omega, show (b0 * 16777216 + b1 * 65536 + b2 * 256 + b3) / 65536 % 256 = b1 by omega,
      show (b0 * 16777216 + b1 * 65536 + b2 * 256 + b3) / 256 % 256 = b2 by omega, show (b0 * 16777216 + b1 * 65536 + b2 * 256 + b3) % 256 = b3 by omega]
    rfl
  · rw [pr_late _ _ (Nat.le_refl _) _ _ _ (by omega)] at k3
    cases k3
theorem txt_inj {a b : Nat} (ha : a < 4294967296) (hb : b < 4294967296) (h : txt a = txt b) : a = b := by
  have := parse_txt a ha
  rw [h, parse_txt b hb] at this
  injection this with this
  exact this.symm
def pa (l : List UInt8) : Nat := (parseN l).getD 0
def pe (l : List UInt8) : Int := if (parseN l).isSome then 0 else 7
theorem pa_lt (l : List UInt8) : pa l < 4294967296 := by
  unfold pa
  cases h : parseN l with
  | none => simp
  | some a => exact (parse_some l a h).1
theorem pa_txt (a : Nat) (h : a < 4294967296) : pa (txt a) = a := by rw [pa, parse_txt a h]; rfl
theorem pe_txt (a : Nat) (h : a < 4294967296) : pe (txt a) = 0 := by rw [pe, parse_txt a h]; rfl
theorem pe_cases (l : List UInt8) : (pe l = 0 ∧ txt (pa l) = l) ∨ (pe l = 7 ∧ pa l = 0) := by
  unfold pe pa
  cases h : parseN l with
  | none => exact .inr ⟨rfl, rfl⟩
  | some a => exact .inl ⟨rfl, (parse_some l a h).2.symm⟩
theorem pe_of {l : List UInt8} (h : pe l = 0) : ∃ a, a < 4294967296 ∧ l = txt a := by
  rcases pe_cases l with ⟨_, h2⟩ | ⟨h2, _⟩
  · exact ⟨pa l, pa_lt l, h2.symm⟩
  · omega
theorem pe_no {l : List UInt8} (h : ∀ a, l ≠ txt a) : pe l = 7 := by
  rcases pe_cases l with ⟨_, h2⟩ | ⟨h2, _⟩
  · exact absurd h2.symm (h _)
  · exact h2

/-! texts that are none -/
def dots (l : List UInt8) : Nat := l.count 46
theorem dots_dec (n : Nat) : dots (dec n) = 0 := List.count_eq_zero.2 (dec_nodot n)
theorem dots_txt4 (a b c d : Nat) : dots (txt4 a b c d) = 3 := by
  have h0 := dots_dec a
  have h1 := dots_dec b
  have h2 := dots_dec c
  have h3 := dots_dec d
  unfold dots at *
  simp only [txt4, List.count_append, List.count_cons_self, h0, h1, h2, h3]
theorem txt4_split {a b c a' b' c' d' : Nat} {x : List UInt8} (h : dec a ++ 46 :: (dec b ++ 46 :: (dec c ++ 46 :: x)) = txt4 a' b' c' d') : a = a' ∧ b = b' ∧ c = c' ∧ x = dec d' := by
  obtain ⟨e0, h⟩ := split_dot _ _ _ _ (dec_nodot _) (dec_nodot _) h
  obtain ⟨e1, h⟩ := split_dot _ _ _ _ (dec_nodot _) (dec_nodot _) h
  obtain ⟨e2, h⟩ := split_dot _ _ _ _ (dec_nodot _) (dec_nodot _) h
  exact ⟨dec_inj e0, dec_inj e1, dec_inj e2, h⟩
/-- with a number above 255 -/
theorem pe_high (a b c d : Nat) (h : 256 ≤ a ∨ 256 ≤ b ∨ 256 ≤ c ∨ 256 ≤ d) : pe (txt4 a b c d) = 7 := pe_no fun x hx => by
  obtain ⟨e0, e1, e2, e3⟩ := txt4_split (a := a) (b := b) (c := c) (x := dec d) hx
  have e3 := dec_inj e3
  have h0 := byt_lt x 0
  have h1 := byt_lt x 1
  have h2 := byt_lt x 2
  have h3 := byt_lt x 3
  omega
/-- with other than three dots -/
theorem pe_dots (l : List UInt8) (h : dots l ≠ 3) : pe l = 7 := pe_no fun x hx => h (by rw [hx]; exact dots_txt4 _ _ _ _)
/-- with anything behind it that is no digit -/
theorem pe_behind (a : Nat) (c : UInt8) (r : List UInt8) (h : isDig c = false) : pe (txt a ++ c :: r) = 7 := pe_no fun x hx => by
  have e : txt a ++ c :: r = dec (byt a 0) ++ 46 :: (dec (byt a 1) ++ 46 :: (dec (byt a 2) ++ 46 :: (dec (byt a 3) ++ c :: r))) := by simp [txt, txt4]
  rw [e] at hx
  obtain ⟨_, _, _, e3⟩ := txt4_split hx
  have := dec_digs _ c (by rw [← e3]; simp)
  rw [h] at this
  cases this
/-- with a nought ahead -/
theorem pe_nought (a : Nat) : pe (48 :: txt a) = 7 := pe_no fun x hx => by
  have e : (48 :: txt a : List UInt8) = (48 :: dec (byt a 0)) ++ 46 :: (dec (byt a 1) ++ 46 :: (dec (byt a 2) ++ 46 :: dec (byt a 3))) := by simp [txt, txt4]
  rw [e] at hx
  obtain ⟨e0, _⟩ := split_dot _ _ _ _ (by
    intro h
    rcases List.mem_cons.1 h with h | h
    · cases h
    · exact dec_nodot _ h) (dec_nodot _) hx
  have hp := dec_pos (byt a 0)
  have hl := byt_lt x 0
  rcases dec_cases (byt x 0) hl with ⟨h1, e1⟩ | ⟨h1, h2, e1⟩ | ⟨h1, e1⟩
  · rw [e1] at e0
    injection e0 with _ e0
    rw [e0] at hp
    simp at hp
  · rw [e1] at e0
    injection e0 with e0 _
    have := congrArg UInt8.toNat e0
    rw [u8_lt (by omega)] at this
    have h48 : (48 : UInt8).toNat = 48 := rfl
    omega
  · rw [e1] at e0
    injection e0 with e0 _
    have := congrArg UInt8.toNat e0
    rw [u8_lt (by omega)] at this
    have h48 : (48 : UInt8).toNat = 48 := rfl
    omega

/-! the reference's way of parsing -/
def rv : List UInt8 → Nat → Nat → Nat
  | [], a, n => st a n
  | c :: r, a, n => if c.toNat = 46 then rv r (st a n) 0 else rv r a ((n * 10 + c.toNat + 4294967248) % 4294967296)
theorem rv_dot (c : UInt8) (r : List UInt8) (a n : Nat) (h : c.toNat = 46) : rv (c :: r) a n = rv r (st a n) 0 := by simp [rv, h]
theorem rv_other (c : UInt8) (r : List UInt8) (a n : Nat) (h : c.toNat ≠ 46) : rv (c :: r) a n = rv r a ((n * 10 + c.toNat + 4294967248) % 4294967296) := by simp [rv, h]
theorem rv_dig (v : Nat) (r : List UInt8) (a n : Nat) (hv : v < 10) (hn : n < 1000) : rv (UInt8.ofNat (48 + v) :: r) a n = rv r a (n * 10 + v) := by
  have hc : (UInt8.ofNat (48 + v)).toNat = 48 + v := u8_lt (by omega)
  have e : (n * 10 + (48 + v) + 4294967248) % 4294967296 = n * 10 + v := by omega
  rw [rv_other _ _ _ _ (by omega), hc, e]
theorem rv_dec (m : Nat) (hm : m < 256) (r : List UInt8) (a : Nat) : rv (dec m ++ r) a 0 = rv r a m := by
  rcases dec_cases m hm with ⟨h, e⟩ | ⟨h, h2, e⟩ | ⟨h, e⟩
  · rw [e]
    show rv (_ :: r) a 0 = _
    rw [rv_dig _ _ _ _ h (by omega)]
    congr 1
    omega
  · rw [e]
    show rv (_ :: _ :: r) a 0 = _
    rw [rv_dig _ _ _ _ (by omega) (by omega), rv_dig _ _ _ _ (by omega) (by omega)]
    congr 1
    omega
  · rw [e]
    show rv (_ :: _ :: _ :: r) a 0 = _
    rw [rv_dig _ _ _ _ (by omega) (by omega), rv_dig _ _ _ _ (by omega) (by omega), rv_dig _ _ _ _ (by omega) (by omega)]
    congr 1
    omega
theorem rv_txt (a : Nat) (h : a < 4294967296) : rv (txt a) 0 0 = a := by
  have e := rv_dec (byt a 3) (byt_lt a 3) [] (st (st (st 0 (byt a 0)) (byt a 1)) (byt a 2))
  rw [List.append_nil] at e
  rw [txt, txt4, rv_dec _ (byt_lt _ _), rv_dot _ _ _ _ rfl, rv_dec _ (byt_lt _ _), rv_dot _ _ _ _ rfl, rv_dec _ (byt_lt _ _), rv_dot _ _ _ _ rfl, e]
  show st _ _ = _
  rw [st_four _ _ _ _ (byt_lt _ _) (byt_lt _ _) (byt_lt _ _) (byt_lt _ _), byt0, byt1, byt2, byt3]
  omega
/-- the number that the reference takes a text for -/
def rn (l : List UInt8) : Nat := if l.length < 16 then rv l 0 0 else 0
theorem st_lt (a n : Nat) : st a n < 4294967296 := Nat.mod_lt _ (by omega)
theorem rv_lt : ∀ (l : List UInt8) (a n : Nat), rv l a n < 4294967296
  | [], a, n => st_lt a n
  | c :: r, a, n => by
    rw [rv]
    split
    · exact rv_lt _ _ _
    · exact rv_lt _ _ _
theorem rn_lt (l : List UInt8) : rn l < 4294967296 := by
  unfold rn
  split
  · exact rv_lt _ _ _
  · omega
theorem rn_yes {l : List UInt8} (h : txt (rn l) = l) : pa l = rn l ∧ pe l = 0 := by
  have h1 := pa_txt (rn l) (rn_lt l)
  have h2 := pe_txt (rn l) (rn_lt l)
  rw [h] at h1 h2
  exact ⟨h1, h2⟩
theorem rn_no {l : List UInt8} (h : txt (rn l) ≠ l) : pa l = 0 ∧ pe l = 7 := by
  rcases pe_cases l with ⟨h1, h2⟩ | ⟨h1, h2⟩
  · have hl : l.length < 16 := by have := txt_le (pa l); rw [h2] at this; omega
    have h3 : rn l = pa l := by
      rw [rn, if_pos hl]
      have := rv_txt (pa l) (pa_lt l)
      rw [h2] at this
      exact this
    rw [h3] at h
    exact absurd h2 h
  · exact ⟨h2, h1⟩
end Go.Proofs.Ytpfpkghihpcbkaa
