/- Appends to rows that were made with their bytes. -/
import Derived.Test.YtohggpaffmcfoaaDoorL10
namespace Go.Proofs.YtohggpaffmcfoaaDoor
open Go.RowKit
set_option linter.unusedVariables false
set_option linter.unusedSimpArgs false

attribute [local go_sem ↓] sliced_cut
attribute [local go_sem] cutA_zero
set_option maxRecDepth 100000
theorem Blk.ownL {g n base : Nat} {bs : List UInt8} {cs : Array Value} {t : TypeId} {w : World} (h : Blk g cs t w) (hc : (vals bs).toArray = cs) (hn : bs.length = n) (hm : n ≤ maxLen) (hb : base ≤ g) : w.ownsRow base t 1 (.slice (some ⟨g, 0, none⟩) n n) n (vals bs) := by
  subst hc
  exact ⟨by rw [vals_length, hn, Nat.mul_one], .inr ⟨g, n, _, rfl, hb, h, Nat.le_refl _, hm, by simp [vals_length, hn], List.take_of_length_le (by simp [vals_length, hn])⟩⟩
theorem Blk.isB {g n : Nat} {bs : List UInt8} {cs : Array Value} {t : TypeId} {w : World} (h : Blk g cs t w) (hc : (vals bs).toArray = cs) (hn : bs.length = n) (hm : n ≤ maxLen) : IsB w (.slice (some ⟨g, 0, none⟩) n n) bs := IsB.of_own (h.ownL hc hn hm (Nat.le_refl _))
/-- append to a row that was made with its bytes -/
theorem wpList_lit {ops : Array Oper} {rest : List Oper} {o : Oper} {a : Act} {w : World} {Q : Exit → Act → World → Prop} (hgd : o.guard = none) (s x : Operand)
    (ho : o.op = .call { callee := .builtin .append, args := #[s, x], argTypes := #[25, 25] })
    (g : Nat) (bs : List UInt8) {cs : Array Value} (hk : Blk g cs 5 w) (hc : (vals bs).toArray = cs) (n : Nat) (hn : bs.length = n) (hs : a.eval s = .slice (some ⟨g, 0, none⟩) n n)
    (A : Option Addr) (m c : Nat) (l : List UInt8) (hx : a.eval x = .slice A m c) (hv : IsB w (.slice A m c) l) (h1 : n ≤ 1000) (h2 : m ≤ 1000) (q : Nat) (hq : n + m = q)
    (h : ∀ A' c' w', IsB w' (.slice A' q c') (bs ++ l) → q ≤ c' → Below g w w' → wpList Tryd.prog ops Q rest (a.put o.dst (.slice A' q c')) w') : wpList Tryd.prog ops Q (o :: rest) a w := by
  obtain ⟨i0, hi0, hz0, hz1, hz2⟩ := info_parts byte_info
  obtain ⟨A', m', c', e, k1, k2, k3, k4⟩ := hv
  injection e with e1 e2 e3
  subst e1 e2 e3
  have hsz := hk.size
  refine wpList_append_has w hgd s x 25 ho g 5 i0 (.int .u8 0) 1 Tryd.underlying25 hi0 hz0 hz1 hz2 rfl _ n (vals bs) hs (hk.ownL hc hn (by unfold maxLen; omega) (Nat.le_refl _)) A m c (vals l) hx (by rw [vals_length, k3]) k4 (vals_one _) (by unfold maxLen; omega) (by omega) (by omega) ?_
  intro v' w' hown hgrow _
  rw [← vals_append] at hown
  have hv := IsB.of_own hown
  obtain ⟨A', q', c', rfl, k1, k2, k3, k4⟩ := hv
  obtain rfl : q' = q := by rw [← k3, List.length_append]; omega
  refine h A' c' w' ⟨_, _, _, rfl, k1, k2, k3, k4⟩ k1 ((Below.refl g w).grown hgrow (by omega) (fun k hk => ?_))
  · have : g = k := by simpa [Value.ownBlock] using hk
    omega
theorem isN_isS {w : World} {s : Value} {N : Nt} (h : IsN w (.agg #[s]) N) : IsS w s N := by
  obtain ⟨s', e, h1⟩ := h
  injection e with e
  simp at e
  subst e
  exact h1
theorem Blk.al {g : Nat} {cs : Array Value} {t : TypeId} {w : World} (h : Blk g cs t w) (o : Obj) : Blk g cs t (w.alloc o) := h.bel ((Below.refl _ _).alloc (Nat.le_refl _) _)

end Go.Proofs.YtohggpaffmcfoaaDoor
