/- Plain words of layer 8: tables of rules: which may be, which rule is found, tables made such as may be. No program. -/
import Derived.Test.YtpfpkghihpcbkaaRulMath
namespace Go.Proofs.Ytpfpkghihpcbkaa
set_option linter.unusedVariables false
set_option linter.unusedSimpArgs false

structure Rl where
  at_ : Nat
  len : Int
  act : Int
  nxt : Int
theorem Rl.same {x y : Rl} (h1 : x.at_ = y.at_) (h2 : x.len = y.len) (h3 : x.act = y.act) (h4 : x.nxt = y.nxt) : x = y := by
  cases x; cases y; simp_all

/-! order -/
def cmpR (x y : Rl) : Int := cmpI x.at_ x.len y.at_ y.len
theorem cmpR_lt {x y : Rl} : cmpR x y = -1 ↔ x.at_ < y.at_ ∨ (x.at_ = y.at_ ∧ x.len < y.len) := by
  unfold cmpR cmpI
  split
  · simp_all
  · split <;> simp_all
theorem cmpR_eq {x y : Rl} : cmpR x y = 0 ↔ x.at_ = y.at_ ∧ x.len = y.len := by
  unfold cmpR cmpI
  split
  · rename_i h
    constructor
    · intro h2; omega
    · rintro ⟨h1, h2⟩; omega
  · split <;> simp_all
theorem cmpR_gt {x y : Rl} : cmpR x y = 1 ↔ cmpR y x = -1 := by
  rw [cmpR_lt]
  unfold cmpR cmpI
  split
  · constructor
    · intro h2; omega
    · intro h2; omega
  · split
    · constructor
      · intro h2; omega
      · intro h2; omega
    · constructor
      · intro h2; omega
      · intro h2; rfl
theorem cmpR_self (x : Rl) : cmpR x x = 0 := cmpR_eq.2 ⟨rfl, rfl⟩
theorem cmpR_three (x y : Rl) : cmpR x y = -1 ∨ cmpR x y = 0 ∨ cmpR x y = 1 := by
  rw [cmpR_gt, cmpR_lt, cmpR_lt, cmpR_eq]
  omega
def ltR (x y : Rl) : Prop := cmpR x y = -1
theorem ltR_trans {x y z : Rl} (h1 : ltR x y) (h2 : ltR y z) : ltR x z := by
  unfold ltR at *
  rw [cmpR_lt] at *
  omega
theorem ltR_irr {x : Rl} : ¬ ltR x x := by unfold ltR; rw [cmpR_lt]; omega
theorem ltR_ne {x y : Rl} (h : ltR x y) : cmpR x y ≠ 0 ∧ cmpR y x ≠ 0 := by
  unfold ltR at h
  rw [cmpR_lt] at h
  constructor
  · rw [Ne, cmpR_eq]; omega
  · rw [Ne, cmpR_eq]; omega

/-! which may be -/
def mayRl (r : Rl) (m : Int) : Int := mayR r.at_ r.len r.act r.nxt m
theorem mayRl_ok {r : Rl} {m : Int} : mayRl r m = 0 ↔ mayI r.at_ r.len = 0 ∧ ((r.act = 1 ∧ 0 ≤ r.nxt ∧ r.nxt < m) ∨ ((r.act = 2 ∨ r.act = 3) ∧ r.nxt = 0)) := by
  unfold mayRl mayR
  split
  · rename_i h
    constructor
    · intro h2; exact absurd h2 h
    · rintro ⟨h2, _⟩; exact absurd h2 h
  · rename_i h
    have h0 : mayI r.at_ r.len = 0 := by simpa using h
    split
    · rename_i h1
      split
      · constructor
        · intro h3; omega
        · rintro ⟨_, h3⟩; omega
      · constructor
        · intro _; exact ⟨h0, by omega⟩
        · intro _; rfl
    · split
      · split
        · constructor
          · intro _; exact ⟨h0, by omega⟩
          · intro _; rfl
        · constructor
          · intro h3; omega
          · rintro ⟨_, h3⟩; omega
      · constructor
        · intro h3; omega
        · rintro ⟨_, h3⟩; omega
theorem mayI_ok {a : Nat} {n : Int} : mayI a n = 0 ↔ 0 ≤ n ∧ n ≤ 32 ∧ loN a (cl n) = a := by
  unfold mayI
  split
  · constructor
    · intro h; omega
    · rintro ⟨h1, h2, _⟩; omega
  · split
    · rename_i h1 h2
      constructor
      · intro _; exact ⟨by omega, by omega, h2⟩
      · intro _; rfl
    · rename_i h1 h2
      constructor
      · intro h; omega
      · rintro ⟨_, _, h3⟩; exact absurd h3 h2
/-- rule by rule: the rule's error; 11, if it is not above the one ahead -/
def mayGo : Option Rl → List Rl → Int → Int
  | _, [], _ => 0
  | p, r :: l, m => if mayRl r m ≠ 0 then mayRl r m else match p with
    | none => mayGo (some r) l m
    | some q => if cmpR r q ≠ 1 then 11 else mayGo (some r) l m
def mayT (l : List Rl) (m : Int) : Int := mayGo none l m
def Ord (l : List Rl) : Prop := l.Pairwise ltR
def OkT (l : List Rl) (m : Int) : Prop := ∀ r ∈ l, mayRl r m = 0
theorem mayGo_ok (m : Int) : ∀ (l : List Rl) (p : Option Rl), (mayGo p l m = 0 ↔ OkT l m ∧ Ord l ∧ ∀ q, p = some q → ∀ r ∈ l, ltR q r)
  | [], p => by simp [mayGo, OkT, Ord]
  | r :: l, p => by
    unfold mayGo
    by_cases h : mayRl r m = 0
    · rw [if_neg (by simpa using h)]
      have ih := mayGo_ok m l (some r)
      have key : mayGo (some r) l m = 0 ↔ OkT (r :: l) m ∧ Ord (r :: l) := by
        rw [ih]
        unfold OkT Ord
        rw [List.pairwise_cons]
        constructor
        · rintro ⟨h1, h2, h3⟩
          exact ⟨fun x hx => by rcases List.mem_cons.1 hx with rfl | hx; exact h; exact h1 x hx, h3 r rfl, h2⟩
        · rintro ⟨h1, h2, h3⟩
          exact ⟨fun x hx => h1 x (List.mem_cons_of_mem _ hx), h3, fun q hq x hx => by cases hq; exact h2 x hx⟩
      cases p with
      | none =>
        simp only [key]
        simp
      | some q =>
        simp only
        by_cases hc : cmpR r q = 1
        · rw [if_neg (by simpa using hc), key]
          have hq : ltR q r := cmpR_gt.1 hc
          constructor
          · rintro ⟨h1, h2⟩
            refine ⟨h1, h2, fun q' hq' x hx => ?_⟩
            cases hq'
            rcases List.mem_cons.1 hx with rfl | hx
            · exact hq
            · unfold Ord at h2
              rw [List.pairwise_cons] at h2
              exact ltR_trans hq (h2.1 x hx)
          · rintro ⟨h1, h2, _⟩; exact ⟨h1, h2⟩
        · rw [if_pos hc]
          constructor
          · intro h1; omega
          · rintro ⟨_, _, h3⟩
            exact absurd (cmpR_gt.2 (h3 q rfl r (by simp))) hc
    · rw [if_pos h]
      constructor
      · intro h1; exact absurd h1 h
      · rintro ⟨h1, _⟩; exact absurd (h1 r (by simp)) h
theorem mayT_ok {l : List Rl} {m : Int} : mayT l m = 0 ↔ OkT l m ∧ Ord l := by
  unfold mayT
  rw [mayGo_ok]
  simp
theorem mayGo_cons (p : Option Rl) (r : Rl) (l : List Rl) (m : Int) : mayGo p (r :: l) m = if mayRl r m ≠ 0 then mayRl r m else match p with
    | none => mayGo (some r) l m
    | some q => if cmpR r q ≠ 1 then 11 else mayGo (some r) l m := rfl
/-- what is ahead may be: the rest tells -/
theorem mayGo_app (m : Int) (y : List Rl) : ∀ (x : List Rl) (p : Option Rl), mayGo p x m = 0 → mayGo p (x ++ y) m = mayGo (x.getLast?.or p) y m
  | [], p, _ => by simp
  | r :: x, p, h => by
    rw [List.cons_append, mayGo_cons]
    rw [mayGo_cons] at h
    by_cases h0 : mayRl r m = 0
    · rw [if_neg (by simpa using h0)] at h ⊢
      have e : ((r :: x).getLast?.or p) = (x.getLast?.or (some r)) := by
        rw [List.getLast?_cons]
        cases x.getLast? <;> simp
      rw [e]
      cases p with
      | none => exact mayGo_app m y x (some r) h
      | some q =>
        simp only at h ⊢
        by_cases hc : cmpR r q = 1
        · rw [if_neg (by simpa using hc)] at h ⊢
          exact mayGo_app m y x (some r) h
        · rw [if_pos hc] at h
          omega
    · rw [if_pos h0] at h
      exact absurd h h0
/-- from place k on -/
def prevOf (l : List Rl) (k : Nat) : Option Rl := (l.take k).getLast?
theorem prev_zero (l : List Rl) : prevOf l 0 = none := by simp [prevOf]
theorem prev_succ (l : List Rl) (k : Nat) (hk : k < l.length) : prevOf l (k + 1) = some l[k] := by
  unfold prevOf
  rw [List.take_succ_eq_append_getElem hk, List.getLast?_concat]
theorem mayT_at (l : List Rl) (k : Nat) (m : Int) (hk : k < l.length) : mayGo (prevOf l k) (l.drop k) m = if mayRl l[k] m ≠ 0 then mayRl l[k] m else match prevOf l k with
    | none => mayGo (some l[k]) (l.drop (k + 1)) m
    | some q => if cmpR l[k] q ≠ 1 then 11 else mayGo (some l[k]) (l.drop (k + 1)) m := by
  rw [List.drop_eq_getElem_cons hk, mayGo_cons]
theorem mayT_bad (l : List Rl) (k : Nat) (m : Int) (hk : k < l.length) (h : mayRl l[k] m ≠ 0) : mayGo (prevOf l k) (l.drop k) m = mayRl l[k] m := by rw [mayT_at l k m hk, if_pos h]
theorem mayT_first (l : List Rl) (m : Int) (hk : 0 < l.length) (h : mayRl l[0] m = 0) : mayGo (prevOf l 0) (l.drop 0) m = mayGo (prevOf l (0 + 1)) (l.drop (0 + 1)) m := by
  rw [mayT_at l 0 m hk, if_neg (by simpa using h), prev_zero, prev_succ l 0 hk]
theorem mayT_next (l : List Rl) (k : Nat) (m : Int) (hk : k + 1 < l.length) (h : mayRl l[k + 1] m = 0) (hc : cmpR l[k + 1] l[k] = 1) : mayGo (prevOf l (k + 1)) (l.drop (k + 1)) m = mayGo (prevOf l (k + 1 + 1)) (l.drop (k + 1 + 1)) m := by
  rw [mayT_at l (k + 1) m hk, if_neg (by simpa using h), prev_succ l k (by omega), prev_succ l (k + 1) hk]
  simp only
  rw [if_neg (by simpa using hc)]
theorem mayT_order (l : List Rl) (k : Nat) (m : Int) (hk : k + 1 < l.length) (h : mayRl l[k + 1] m = 0) (hc : cmpR l[k + 1] l[k] ≠ 1) : mayGo (prevOf l (k + 1)) (l.drop (k + 1)) m = 11 := by
  rw [mayT_at l (k + 1) m hk, if_neg (by simpa using h), prev_succ l k (by omega)]
  simp only
  rw [if_pos hc]
theorem mayT_end (l : List Rl) (m : Int) : mayGo (prevOf l l.length) (l.drop l.length) m = 0 := by rw [List.drop_length]; rfl
/-- with fewer nodes: the node's error, or none -/
theorem mayGo_fewer (m m' : Int) : ∀ (l : List Rl) (p : Option Rl), mayGo p l m = 0 → (∃ r ∈ l, r.act = 1 ∧ m' ≤ r.nxt) → mayGo p l m' = 10
  | [], p, _, h => by obtain ⟨r, hr, _⟩ := h; cases hr
  | r :: l, p, h, hx => by
    rw [mayGo_cons] at h ⊢
    by_cases h0 : mayRl r m = 0
    · rw [if_neg (by simpa using h0)] at h
      obtain ⟨h1, h2⟩ := mayRl_ok.1 h0
      by_cases hr : r.act = 1 ∧ m' ≤ r.nxt
      · have e : mayRl r m' = 10 := by
          unfold mayRl
          rw [hr.1]
          exact mayR_next_no h1 (.inr hr.2)
        rw [e, if_pos (by omega)]
      · have e : mayRl r m' = 0 := mayRl_ok.2 ⟨h1, by omega⟩
        rw [e, if_neg (by omega)]
        have hx2 : ∃ r ∈ l, r.act = 1 ∧ m' ≤ r.nxt := by
          obtain ⟨x, hm, hq⟩ := hx
          rcases List.mem_cons.1 hm with rfl | hm
          · exact absurd hq hr
          · exact ⟨x, hm, hq⟩
        cases p with
        | none => exact mayGo_fewer m m' l (some r) h hx2
        | some q =>
          simp only at h ⊢
          by_cases hc : cmpR r q = 1
          · rw [if_neg (by simpa using hc)] at h ⊢
            exact mayGo_fewer m m' l (some r) h hx2
          · rw [if_pos hc] at h
            omega
    · rw [if_pos h0] at h
      exact absurd h h0

/-! which is found -/
def holdR (r : Rl) (a : Nat) : Bool := holdB r.at_ (cl r.len) a
def above (r : Rl) : Option Rl → Bool
  | none => true
  | some b => decide (b.len < r.len)
def stepF (a : Nat) (o : Option Rl) (r : Rl) : Option Rl := if holdR r a && above r o then some r else o
def findF (l : List Rl) (a : Nat) : Option Rl := l.foldl (stepF a) none
/-- what has been found of x: the first one of the longest that hold -/
def Best (x : List Rl) (a : Nat) (o : Option Rl) : Prop :=
  match o with
  | none => ∀ r ∈ x, holdR r a = false
  | some b => b ∈ x ∧ holdR b a = true ∧ ∀ r ∈ x, holdR r a = true → r.len ≤ b.len
theorem best_step {x : List Rl} {a : Nat} {o : Option Rl} (r : Rl) (h : Best x a o) : Best (x ++ [r]) a (stepF a o r) := by
  unfold stepF
  by_cases hh : holdR r a = true
  · cases o with
    | none =>
      simp only [hh, above, Bool.and_self, if_true]
      refine ⟨by simp, hh, fun q hq hq2 => ?_⟩
      rcases List.mem_append.1 hq with hq | hq
      · rw [h q hq] at hq2; cases hq2
      · simp at hq; subst hq; exact Int.le_refl _
    | some b =>
      obtain ⟨h1, h2, h3⟩ := h
      by_cases hl : b.len < r.len
      · simp only [hh, above, hl, decide_true, Bool.and_self, if_true]
        refine ⟨by simp, hh, fun q hq hq2 => ?_⟩
        rcases List.mem_append.1 hq with hq | hq
        · have := h3 q hq hq2; omega
        · simp at hq; subst hq; exact Int.le_refl _
      · simp only [hh, above, hl, decide_false, Bool.and_false]
        refine ⟨by simp [h1], h2, fun q hq hq2 => ?_⟩
        rcases List.mem_append.1 hq with hq | hq
        · exact h3 q hq hq2
        · simp at hq; subst hq; omega
  · have hf : holdR r a = false := by simpa using hh
    simp only [hf, Bool.false_and]
    cases o with
    | none =>
      intro q hq
      rcases List.mem_append.1 hq with hq | hq
      · exact h q hq
      · simp at hq; subst hq; exact hf
    | some b =>
      obtain ⟨h1, h2, h3⟩ := h
      refine ⟨by simp [h1], h2, fun q hq hq2 => ?_⟩
      rcases List.mem_append.1 hq with hq | hq
      · exact h3 q hq hq2
      · simp at hq; subst hq; exact absurd hq2 hh
theorem best_fold (a : Nat) : ∀ (y x : List Rl) (o : Option Rl), Best x a o → Best (x ++ y) a (y.foldl (stepF a) o)
  | [], x, o, h => by simpa using h
  | r :: y, x, o, h => by
    have := best_fold a y (x ++ [r]) _ (best_step r h)
    simpa using this
theorem find_best (l : List Rl) (a : Nat) : Best l a (findF l a) := by
  have h0 : Best [] a none := fun r hr => by cases hr
  have := best_fold a l [] none h0
  simpa [findF] using this
theorem find_none {l : List Rl} {a : Nat} : findF l a = none ↔ ∀ r ∈ l, holdR r a = false := by
  have h := find_best l a
  constructor
  · intro e
    rw [e] at h
    exact h
  · intro g
    cases e : findF l a with
    | none => rfl
    | some b =>
      rw [e] at h
      obtain ⟨h1, h2, _⟩ := h
      rw [g b h1] at h2
      cases h2
theorem find_some {l : List Rl} {a : Nat} {b : Rl} (e : findF l a = some b) : b ∈ l ∧ holdR b a = true ∧ ∀ r ∈ l, holdR r a = true → r.len ≤ b.len := by
  have h := find_best l a
  rw [e] at h
  exact h

theorem find_succ (l : List Rl) (a k : Nat) (hk : k < l.length) : findF (l.take (k + 1)) a = stepF a (findF (l.take k) a) l[k] := by
  unfold findF
  rw [List.take_succ_eq_append_getElem hk, List.foldl_append]
  rfl
theorem step_not {a : Nat} {o : Option Rl} {r : Rl} (h : holdR r a = false) : stepF a o r = o := by simp [stepF, h]
theorem step_first {a : Nat} {r : Rl} (h : holdR r a = true) : stepF a none r = some r := by simp [stepF, h, above]
theorem step_longer {a : Nat} {b r : Rl} (h : holdR r a = true) (hl : b.len < r.len) : stepF a (some b) r = some r := by simp [stepF, h, above, hl]
theorem step_shorter {a : Nat} {b r : Rl} (hl : ¬ b.len < r.len) : stepF a (some b) r = some b := by simp [stepF, above, hl]
/-- the rule that an answer says: all 0, if there is none -/
def foundR (o : Option Rl) : Rl := o.getD ⟨0, 0, 0, 0⟩
/-- Next: the node, if it is sent on -/
def nextT (o : Option Rl) : Int × Bool := match o with
  | none => (0, false)
  | some r => if r.act = 1 then (r.nxt, true) else (0, false)

/-! tables that may be -/
structure Tbl (l : List Rl) (m : Int) : Prop where
  ok : OkT l m
  ord : Ord l
theorem ok_len {r : Rl} {m : Int} (h : mayRl r m = 0) : 0 ≤ r.len ∧ r.len ≤ 32 ∧ loN r.at_ (cl r.len) = r.at_ := mayI_ok.1 (mayRl_ok.1 h).1
theorem hold_at {r : Rl} {m : Int} {a : Nat} (h : mayRl r m = 0) (hh : holdR r a = true) : r.at_ = loN a (cl r.len) := by
  obtain ⟨_, _, h3⟩ := ok_len h
  unfold holdR holdB at hh
  rw [decide_eq_true_iff] at hh
  rw [← hh, h3]
/-- of an order each place is below the others, or the same one -/
theorem ord_two {l : List Rl} (h : Ord l) {x y : Rl} (hx : x ∈ l) (hy : y ∈ l) : x = y ∨ ltR x y ∨ ltR y x := by
  induction l with
  | nil => cases hx
  | cons z l ih =>
    unfold Ord at h
    rw [List.pairwise_cons] at h
    rcases List.mem_cons.1 hx with e1 | hx1
    · rcases List.mem_cons.1 hy with e2 | hy1
      · exact .inl (by rw [e1, e2])
      · exact .inr (.inl (by rw [e1]; exact h.1 y hy1))
    · rcases List.mem_cons.1 hy with e2 | hy1
      · exact .inr (.inr (by rw [e2]; exact h.1 x hx1))
      · exact ih h.2 hx1 hy1
/-- two of one length that hold an address are one -/
theorem tbl_one {l : List Rl} {m : Int} (h : Tbl l m) {x y : Rl} {a : Nat} (hx : x ∈ l) (hy : y ∈ l) (h1 : holdR x a = true) (h2 : holdR y a = true) (hl : x.len = y.len) : x = y := by
  have e : cmpR x y = 0 := cmpR_eq.2 ⟨by rw [hold_at (h.ok x hx) h1, hold_at (h.ok y hy) h2, hl], hl⟩
  rcases ord_two h.ord hx hy with g | g | g
  · exact g
  · exact absurd e (ltR_ne g).1
  · exact absurd e (ltR_ne g).2
/-- what is found of a table that may be: the one that holds, and is longest -/
theorem find_is {l : List Rl} {m : Int} (h : Tbl l m) {b : Rl} {a : Nat} (hb : b ∈ l) (h1 : holdR b a = true) (h2 : ∀ r ∈ l, holdR r a = true → r.len ≤ b.len) : findF l a = some b := by
  cases e : findF l a with
  | none =>
    have := find_none.1 e b hb
    rw [this] at h1
    cases h1
  | some c =>
    obtain ⟨g1, g2, g3⟩ := find_some e
    have := g3 b hb h1
    have := h2 c g1 g2
    rw [tbl_one h g1 hb g2 h1 (by omega)]
/-- two tables with the same rules find the same -/
theorem find_same {l l' : List Rl} {m m' : Int} (h : Tbl l m) (h' : Tbl l' m') (a : Nat) (hm : ∀ r, holdR r a = true → (r ∈ l ↔ r ∈ l')) : findF l a = findF l' a := by
  cases e : findF l' a with
  | none =>
    rw [find_none] at e ⊢
    intro r hr
    cases g : holdR r a with
    | false => rfl
    | true =>
      have := e r ((hm r g).1 hr)
      rw [this] at g
      cases g
  | some b =>
    obtain ⟨g1, g2, g3⟩ := find_some e
    exact find_is h ((hm b g2).2 g1) g2 fun r hr hh => g3 r ((hm r hh).1 hr) hh

/-! tables made such as may be -/
def fitN (l m : Int) : Int := (l.tmod m + m).tmod m
def fitRl (m : Int) (r : Rl) : Rl := ⟨loN r.at_ (fitN r.len 33).toNat, fitN r.len 33, if fitN r.act 3 = 0 then 3 else fitN r.act 3, if fitN r.act 3 = 1 then fitN r.nxt m else 0⟩
theorem fitN_bd (l m : Int) (hm : 0 < m) : 0 ≤ fitN l m ∧ fitN l m < m := by
  have h1 : -m < l.tmod m := by
    rcases Int.le_total 0 l with h | h
    · rw [Int.tmod_eq_emod_of_nonneg h]
      have := Int.emod_nonneg l (show m ≠ 0 by omega)
      omega
    · have e : l.tmod m = -((-l).tmod m) := by rw [Int.neg_tmod, Int.neg_neg]
      rw [e, Int.tmod_eq_emod_of_nonneg (by omega)]
      have := Int.emod_lt_of_pos (-l) hm
      omega
  unfold fitN
  rw [Int.tmod_eq_emod_of_nonneg (by omega)]
  exact ⟨Int.emod_nonneg _ (by omega), Int.emod_lt_of_pos _ hm⟩
theorem fitN_id {l m : Int} (h0 : 0 ≤ l) (h1 : l < m) : fitN l m = l := by
  unfold fitN
  rw [Int.tmod_eq_emod_of_nonneg h0, Int.emod_eq_of_lt h0 h1, Int.tmod_eq_emod_of_nonneg (by omega), Int.add_emod_right, Int.emod_eq_of_lt h0 h1]
theorem fitRl_ok (r : Rl) (m : Int) (hm : 0 < m) : mayRl (fitRl m r) m = 0 := by
  obtain ⟨a1, a2⟩ := fitN_bd r.len 33 (by omega)
  obtain ⟨b1, b2⟩ := fitN_bd r.act 3 (by omega)
  obtain ⟨c1, c2⟩ := fitN_bd r.nxt m hm
  rw [mayRl_ok]
  unfold fitRl
  refine ⟨mayI_ok.2 ⟨a1, by show fitN r.len 33 ≤ 32; omega, ?_⟩, ?_⟩
  · show loN (loN r.at_ (fitN r.len 33).toNat) (cl (fitN r.len 33)) = _
    rw [show cl (fitN r.len 33) = (fitN r.len 33).toNat by unfold cl; omega]
    exact lo_lo _ _
  · rcases (by omega : fitN r.act 3 = 0 ∨ fitN r.act 3 = 1 ∨ fitN r.act 3 = 2) with h | h | h
    · simp [h]
    · simp [h, c1, c2]
    · simp [h]
theorem fitRl_id {r : Rl} {m : Int} (h : mayRl r m = 0) : fitRl m r = r := by
  obtain ⟨h1, h2⟩ := mayRl_ok.1 h
  obtain ⟨g1, g2, g3⟩ := mayI_ok.1 h1
  have e1 : fitN r.len 33 = r.len := fitN_id g1 (by omega)
  have e2 : cl r.len = r.len.toNat := by unfold cl; omega
  unfold fitRl
  refine Rl.same ?_ ?_ ?_ ?_
  · show loN r.at_ (fitN r.len 33).toNat = r.at_
    rw [e1, ← e2, g3]
  · exact e1
  · show (if fitN r.act 3 = 0 then 3 else fitN r.act 3) = r.act
    rcases h2 with ⟨h, _⟩ | ⟨h | h, _⟩
    · rw [h]; decide
    · rw [h]; decide
    · rw [h]; decide
  · show (if fitN r.act 3 = 1 then fitN r.nxt m else 0) = r.nxt
    rcases h2 with ⟨h, h3, h4⟩ | ⟨h | h, h3⟩
    · rw [h, if_pos (by decide), fitN_id h3 h4]
    · rw [h, if_neg (by decide), h3]
    · rw [h, if_neg (by decide), h3]
theorem fitRl_at (m : Int) (r : Rl) : (fitRl m r).at_ ≤ r.at_ := lo_le _ _
def ins : List Rl → Rl → List Rl
  | [], r => [r]
  | x :: l, r => if cmpR x r = -1 then x :: ins l r else if cmpR x r = 0 then x :: l else r :: x :: l
theorem ins_mem {l : List Rl} {r x : Rl} (h : x ∈ ins l r) : x ∈ l ∨ x = r := by
  induction l with
  | nil => simpa [ins] using h
  | cons z l ih =>
    unfold ins at h
    split at h
    · rcases List.mem_cons.1 h with rfl | h
      · exact .inl (by simp)
      · rcases ih h with h | h
        · exact .inl (List.mem_cons_of_mem _ h)
        · exact .inr h
    · split at h
      · exact .inl h
      · rcases List.mem_cons.1 h with rfl | h
        · exact .inr rfl
        · exact .inl h
theorem ins_old {l : List Rl} {r x : Rl} (h : x ∈ l) : x ∈ ins l r := by
  induction l with
  | nil => cases h
  | cons z l ih =>
    unfold ins
    split
    · rcases List.mem_cons.1 h with rfl | h
      · simp
      · exact List.mem_cons_of_mem _ (ih h)
    · split
      · exact h
      · exact List.mem_cons_of_mem _ h
theorem ins_ord {l : List Rl} {r : Rl} (h : Ord l) : Ord (ins l r) := by
  induction l with
  | nil => simp [ins, Ord]
  | cons z l ih =>
    unfold Ord at h ih ⊢
    rw [List.pairwise_cons] at h
    unfold ins
    split
    · rename_i hz
      rw [List.pairwise_cons]
      refine ⟨fun x hx => ?_, ih h.2⟩
      rcases ins_mem hx with hx | rfl
      · exact h.1 x hx
      · exact hz
    · split
      · rw [List.pairwise_cons]; exact h
      · rename_i h1 h2
        have h3 : ltR r z := by
          rcases cmpR_three z r with g | g | g
          · exact absurd g h1
          · exact absurd g h2
          · exact cmpR_gt.1 g
        rw [List.pairwise_cons, List.pairwise_cons]
        refine ⟨fun x hx => ?_, h⟩
        rcases List.mem_cons.1 hx with rfl | hx
        · exact h3
        · exact ltR_trans h3 (h.1 x hx)
/-- the prefix is there: nothing changes -/
theorem ins_there {l : List Rl} {r x : Rl} (h : Ord l) (hx : x ∈ l) (hc : cmpR x r = 0) : ins l r = l := by
  induction l with
  | nil => cases hx
  | cons z l ih =>
    unfold Ord at h ih
    rw [List.pairwise_cons] at h
    unfold ins
    rcases List.mem_cons.1 hx with rfl | hx
    · rw [hc]; simp
    · have hz := h.1 x hx
      have e := cmpR_eq.1 hc
      have : cmpR z r = -1 := by
        unfold ltR at hz
        rw [cmpR_lt] at hz ⊢
        omega
      rw [if_pos this, ih h.2 hx]
/-- it isn't there: one more -/
theorem ins_new {l : List Rl} {r : Rl} (h : ∀ x ∈ l, cmpR x r ≠ 0) : (ins l r).length = l.length + 1 ∧ r ∈ ins l r := by
  induction l with
  | nil => simp [ins]
  | cons z l ih =>
    obtain ⟨h1, h2⟩ := ih fun x hx => h x (List.mem_cons_of_mem _ hx)
    unfold ins
    split
    · exact ⟨by simp [h1], List.mem_cons_of_mem _ h2⟩
    · rw [if_neg (h z (by simp))]
      exact ⟨by simp, by simp⟩
theorem ins_le (l : List Rl) (r : Rl) : (ins l r).length ≤ l.length + 1 := by
  induction l with
  | nil => simp [ins]
  | cons z l ih =>
    unfold ins
    split
    · simp; omega
    · split <;> simp
/-- above all: at the end -/
theorem ins_end {l : List Rl} {r : Rl} (h : ∀ x ∈ l, ltR x r) : ins l r = l ++ [r] := by
  induction l with
  | nil => rfl
  | cons z l ih =>
    unfold ins
    rw [if_pos (show cmpR z r = -1 from h z (by simp)), ih fun x hx => h x (List.mem_cons_of_mem _ hx)]
    rfl
theorem ins_ok {l : List Rl} {r : Rl} {m : Int} (h : OkT l m) (hr : mayRl r m = 0) : OkT (ins l r) m := fun x hx => by
  rcases ins_mem hx with hx | rfl
  · exact h x hx
  · exact hr
theorem ins_tbl {l : List Rl} {r : Rl} {m : Int} (h : Tbl l m) (hr : mayRl r m = 0) : Tbl (ins l r) m := ⟨ins_ok h.ok hr, ins_ord h.ord⟩
/-- all of them, one behind the other -/
def insAll (o l : List Rl) : List Rl := l.foldl ins o
theorem insAll_tbl {m : Int} : ∀ {l o : List Rl}, Tbl o m → OkT l m → Tbl (insAll o l) m
  | [], o, h, _ => h
  | r :: l, o, h, hl => by
    show Tbl (insAll (ins o r) l) m
    exact insAll_tbl (ins_tbl h (hl r (by simp))) (fun x hx => hl x (List.mem_cons_of_mem _ hx))
theorem insAll_le : ∀ (l o : List Rl), (insAll o l).length ≤ o.length + l.length
  | [], o => by simp [insAll]
  | r :: l, o => by
    have h1 := insAll_le l (ins o r)
    have h2 := ins_le o r
    simp only [insAll, List.foldl_cons, List.length_cons] at h1 ⊢
    omega
/-- what is in order is laid as it is -/
theorem insAll_ord : ∀ {l o : List Rl}, Ord (o ++ l) → insAll o l = o ++ l
  | [], o, _ => by simp [insAll]
  | r :: l, o, h => by
    have e : ins o r = o ++ [r] := ins_end fun x hx => by
      unfold Ord at h
      rw [List.pairwise_append] at h
      exact h.2.2 x hx r (by simp)
    have h2 : Ord ((o ++ [r]) ++ l) := by simpa using h
    have := insAll_ord h2
    simp only [insAll, List.foldl_cons, e] at this ⊢
    simpa using this
/-- a table that may be, out of any rules -/
def fitT (m : Int) (l : List Rl) : List Rl := insAll [] ((l.take 20).map (fitRl m))
theorem fitT_tbl (m : Int) (l : List Rl) (hm : 0 < m) : Tbl (fitT m l) m :=
  insAll_tbl ⟨(fun r hr => by cases hr), List.Pairwise.nil⟩ fun r hr => by
    obtain ⟨x, _, rfl⟩ := List.mem_map.1 hr
    exact fitRl_ok x m hm
theorem fitT_le (m : Int) (l : List Rl) : (fitT m l).length ≤ 20 := by
  have := insAll_le ((l.take 20).map (fitRl m)) []
  simp only [List.length_nil, List.length_map, List.length_take] at this
  unfold fitT
  omega
theorem fitT_id {m : Int} {l : List Rl} (h : Tbl l m) (hl : l.length ≤ 20) : fitT m l = l := by
  unfold fitT
  rw [List.take_of_length_le hl]
  have e : l.map (fitRl m) = l := by
    have : ∀ r ∈ l, fitRl m r = r := fun r hr => fitRl_id (h.ok r hr)
    rw [List.map_congr_left this, List.map_id']
  rw [e, insAll_ord (by simpa using h.ord)]
  rfl
theorem fitT_snoc {m : Int} {l : List Rl} {r : Rl} (h : Tbl l m) (hl : l.length ≤ 19) (hr : mayRl r m = 0) : fitT m (l ++ [r]) = ins l r := by
  unfold fitT
  rw [List.take_of_length_le (by simp; omega), List.map_append]
  have e : l.map (fitRl m) = l := by
    have : ∀ r ∈ l, fitRl m r = r := fun r hr => fitRl_id (h.ok r hr)
    rw [List.map_congr_left this, List.map_id']
  have e2 : [r].map (fitRl m) = [r] := by simp [fitRl_id hr]
  rw [e, e2]
  unfold insAll
  rw [List.foldl_append]
  show ins (insAll [] l) r = _
  rw [insAll_ord (by simpa using h.ord)]
  rfl
/-- where it is laid: behind all that are below it -/
theorem ins_split {x y : List Rl} {r : Rl} (hx : ∀ z ∈ x, ltR z r) : ins (x ++ y) r = x ++ ins y r := by
  induction x with
  | nil => rfl
  | cons z x ih =>
    have e : ins (z :: (x ++ y)) r = z :: ins (x ++ y) r := if_pos (show cmpR z r = -1 from hx z (by simp))
    rw [List.cons_append, e, ih fun q hq => hx q (List.mem_cons_of_mem _ hq), List.cons_append]
/-- of unlike prefixes all are there -/
theorem insAll_mem : ∀ {l o : List Rl}, (∀ x ∈ o, ∀ y ∈ l, cmpR x y ≠ 0) → l.Pairwise (fun x y => cmpR x y ≠ 0) → ∀ x, x ∈ insAll o l ↔ x ∈ o ∨ x ∈ l
  | [], o, _, _, x => by simp [insAll]
  | r :: l, o, h1, h2, x => by
    rw [List.pairwise_cons] at h2
    have hr : ∀ x ∈ o, cmpR x r ≠ 0 := fun x hx => h1 x hx r (by simp)
    have ih := insAll_mem (l := l) (o := ins o r) (fun y hy z hz => by
      rcases ins_mem hy with hy | rfl
      · exact h1 y hy z (List.mem_cons_of_mem _ hz)
      · exact h2.1 z hz) h2.2 x
    simp only [insAll, List.foldl_cons] at ih ⊢
    rw [ih]
    constructor
    · rintro (h | h)
      · rcases ins_mem h with h | rfl
        · exact .inl h
        · exact .inr (by simp)
      · exact .inr (List.mem_cons_of_mem _ h)
    · rintro (h | h)
      · exact .inl (ins_old h)
      · rcases List.mem_cons.1 h with rfl | h
        · exact .inl (ins_new hr).2
        · exact .inr h
end Go.Proofs.Ytpfpkghihpcbkaa
