/- What stands through a step of a loop over an iterator: blocks of cells, and all that lay below. Boxes of several variables at once. No function of the program is named here. -/
import Derived.Test.YtpfpkghihpcbkaaSeq
import Derived.Test.YtpfpkghihpcbkaaBlk
namespace Go.Proofs.Ytpfpkghihpcbkaa
open Go.RowKit
set_option linter.unusedVariables false
set_option linter.unusedSimpArgs false

/-- new blocks, or one turned that is no cells and lies at b or beyond -/
structure Stp (b : Nat) (A B : World) : Prop where
  os : B.os = A.os
  tape : B.tape = A.tape
  output : B.output = A.output
  size : A.heap.size ≤ B.heap.size
  block : ∀ k, k < A.heap.size → k < b → B.heap[k]? = A.heap[k]?
  cells : ∀ (k : Nat) (cs : Array Value) (t : TypeId) (m : Nat × Nat), A.heap[k]? = some (Obj.cells cs t m) → B.heap[k]? = some (Obj.cells cs t m)
theorem own_of_stp {β : Type} {I : β → World → Prop} {b : Nat} (h : ∀ s A B, I s A → Stp b A B → I s B) : OwnFrom b I := fun s A B row hs hg hr =>
  h s A B hs ⟨hg.os, hg.tape, hg.output, hg.size, fun k h1 h2 => hg.block k h1 (fun e => by have := (hr k e.symm).1; omega), fun k cs t m hk => (hg.block k (Array.getElem?_eq_some_iff.1 hk).1 (fun e => by
    obtain ⟨_, o, ho, hc⟩ := hr k e.symm
    rw [hk] at ho
    cases ho
    cases hc)).trans hk⟩
section
variable {b : Nat} {A B : World}
theorem Blk.stp {g : Nat} {cs : Array Value} {t : TypeId} (h : Blk g cs t A) (s : Stp b A B) : Blk g cs t B := s.cells g cs t (0, 0) h
theorem below_stp {n₀ : Nat} {w : World} (h : Below n₀ w A) (s : Stp b A B) (hw : n₀ ≤ w.heap.size) (hb : n₀ ≤ b) : Below n₀ w B :=
  ⟨s.os.trans h.os, s.tape.trans h.tape, s.output.trans h.output, Nat.le_trans h.size s.size, fun k hk => (s.block k (by have := h.size; omega) (by omega)).trans (h.block k hk)⟩
theorem own_stp {base size n : Nat} {e : TypeId} {v : Value} {xs : List Value} (h : A.ownsRow base e size v n xs) (s : Stp b A B) : B.ownsRow base e size v n xs := by
  refine ⟨h.1, ?_⟩
  rcases h.2 with h | ⟨g, cap, cur, h1, h2, h3, h4⟩
  · exact .inl h
  · exact .inr ⟨g, cap, cur, h1, h2, s.cells _ _ _ _ h3, h4⟩
end
/-! a block shut at the end -/
theorem below_shut {n₀ D : Nat} {w A V : World} (h : Below n₀ w A) (hD : n₀ ≤ D) (h1 : ∀ k, (∀ E ∈ [D], k ≠ E) → V.heap[k]? = A.heap[k]?) (o1 : V.os = A.os) (o2 : V.tape = A.tape) (o3 : V.output = A.output) (o4 : V.heap.size = A.heap.size) : Below n₀ w V :=
  ⟨o1.trans h.os, o2.trans h.tape, o3.trans h.output, by rw [o4]; exact h.size, fun k hk => (h1 k (by intro E hE; rw [List.mem_singleton] at hE; omega)).trans (h.block k hk)⟩
theorem own_shut {W V : World} {ds : List Nat} {base size n : Nat} {e : TypeId} {v : Value} {xs : List Value} (h : W.ownsRow base e size v n xs) (hd : ∀ D ∈ ds, W.heap[D]? = some (.deferred (some []))) (hv : ∀ k, (∀ D ∈ ds, k ≠ D) → V.heap[k]? = W.heap[k]?) : V.ownsRow base e size v n xs := by
  refine ⟨h.1, ?_⟩
  rcases h.2 with h | ⟨g, cap, cur, h1, h2, h3, h4⟩
  · exact .inl h
  · refine .inr ⟨g, cap, cur, h1, h2, (hv g fun D hD e => ?_).trans h3, h4⟩
    subst e
    rw [hd g hD] at h3
    cases h3
theorem Blk.shut {W V : World} {ds : List Nat} {g : Nat} {cs : Array Value} {t : TypeId} (h : Blk g cs t W) (hd : ∀ D ∈ ds, W.heap[D]? = some (.deferred (some []))) (hv : ∀ k, (∀ D ∈ ds, k ≠ D) → V.heap[k]? = W.heap[k]?) : Blk g cs t V := by
  refine (hv g fun D hD e => ?_).trans h
  subst e
  have h2 := (hd g hD).symm.trans h
  cases h2
theorem below_shuts {n₀ : Nat} {w A V : World} {ds : List Nat} (h : Below n₀ w A) (hD : ∀ D ∈ ds, n₀ ≤ D) (h1 : ∀ k, (∀ D ∈ ds, k ≠ D) → V.heap[k]? = A.heap[k]?) (o1 : V.os = A.os) (o2 : V.tape = A.tape) (o3 : V.output = A.output) (o4 : V.heap.size = A.heap.size) : Below n₀ w V :=
  ⟨o1.trans h.os, o2.trans h.tape, o3.trans h.output, by rw [o4]; exact h.size, fun k hk => (h1 k (by intro D hE; have := hD D hE; omega)).trans (h.block k hk)⟩
/-! several boxes -/
theorem boxes3 (w : World) (c1 c2 c3 : Array Value) (t1 t2 t3 : TypeId) {g : Nat} (hg : w.heap.size = g) : ∃ W, ((w.alloc (.cells c1 t1)).alloc (.cells c2 t2)).alloc (.cells c3 t3) = W ∧ Blk g c1 t1 W ∧ Blk (g + 1) c2 t2 W ∧ Blk (g + 1 + 1) c3 t3 W ∧ Below g w W ∧ W.heap.size = g + 1 + 1 + 1 := by
  subst hg
  refine ⟨_, rfl, ?_, ?_, ?_, ?_, by simp only [World.size_alloc]⟩
  · exact ((Blk.new w c1 t1).bel ((Below.refl _ _).alloc (Nat.le_refl _) _)).bel ((Below.refl _ _).alloc (Nat.le_refl _) _)
  · have h := Blk.new (w.alloc (.cells c1 t1)) c2 t2
    rw [World.size_alloc] at h
    exact h.bel ((Below.refl _ _).alloc (Nat.le_refl _) _)
  · have h := Blk.new ((w.alloc (.cells c1 t1)).alloc (.cells c2 t2)) c3 t3
    rw [World.size_alloc, World.size_alloc] at h
    exact h
  · exact (((Below.refl _ w).alloc (Nat.le_refl _) _).alloc (by simp only [World.size_alloc]; omega) _).alloc (by simp only [World.size_alloc]; omega) _
theorem boxes4 (w : World) (c1 c2 c3 c4 : Array Value) (t1 t2 t3 t4 : TypeId) {g : Nat} (hg : w.heap.size = g) : ∃ W, (((w.alloc (.cells c1 t1)).alloc (.cells c2 t2)).alloc (.cells c3 t3)).alloc (.cells c4 t4) = W ∧ Blk g c1 t1 W ∧ Blk (g + 1) c2 t2 W ∧ Blk (g + 1 + 1) c3 t3 W ∧ Blk (g + 1 + 1 + 1) c4 t4 W ∧ Below g w W ∧ W.heap.size = g + 1 + 1 + 1 + 1 := by
  obtain ⟨W, rfl, h1, h2, h3, h4, h5⟩ := boxes3 w c1 c2 c3 t1 t2 t3 hg
  refine ⟨_, rfl, h1.bel ((Below.refl _ _).alloc (Nat.le_refl _) _), h2.bel ((Below.refl _ _).alloc (Nat.le_refl _) _), h3.bel ((Below.refl _ _).alloc (Nat.le_refl _) _), ?_, h4.alloc (by rw [← hg]; exact h4.size) _, by rw [World.size_alloc, h5]⟩
  have h := Blk.new (((w.alloc (.cells c1 t1)).alloc (.cells c2 t2)).alloc (.cells c3 t3)) c4 t4
  rw [h5] at h
  exact h
/-! stores into boxes -/
theorem set_one {p : Nat} {x : Value} {t : TypeId} {W : World} (h : Blk p #[x] t W) (u : Value) : Blk p #[u] t (W.setCell ⟨p, 0, none⟩ u) ∧ (∀ q cs s, q ≠ p → Blk q cs s W → Blk q cs s (W.setCell ⟨p, 0, none⟩ u)) ∧ KeepsOthers W (W.setCell ⟨p, 0, none⟩ u) ∧ (∀ n₀, n₀ ≤ p → Below n₀ W (W.setCell ⟨p, 0, none⟩ u)) ∧ (W.setCell ⟨p, 0, none⟩ u).heap.size = W.heap.size :=
  ⟨h.set 0 u rfl, fun q cs s hq k => k.far p 0 u hq, KeepsOthers.setCell _ _ _, fun n₀ hn => (Below.refl n₀ W).setCell (p := ⟨p, 0, none⟩) hn u, by simp [World.setCell]⟩
theorem set_two {p q : Nat} {x y : Value} {s t : TypeId} {W : World} (h : Blk p #[x] s W) (k : Blk q #[y] t W) (hn : p ≠ q) (u v : Value) :
    Blk p #[u] s ((W.setCell ⟨p, 0, none⟩ u).setCell ⟨q, 0, none⟩ v) ∧ Blk q #[v] t ((W.setCell ⟨p, 0, none⟩ u).setCell ⟨q, 0, none⟩ v) ∧ (∀ r cs z, r ≠ p → r ≠ q → Blk r cs z W → Blk r cs z ((W.setCell ⟨p, 0, none⟩ u).setCell ⟨q, 0, none⟩ v)) ∧
    KeepsOthers W ((W.setCell ⟨p, 0, none⟩ u).setCell ⟨q, 0, none⟩ v) ∧ (∀ n₀, n₀ ≤ p → n₀ ≤ q → Below n₀ W ((W.setCell ⟨p, 0, none⟩ u).setCell ⟨q, 0, none⟩ v)) ∧ ((W.setCell ⟨p, 0, none⟩ u).setCell ⟨q, 0, none⟩ v).heap.size = W.heap.size := by
  obtain ⟨a1, a2, a3, a4, a5⟩ := set_one h u
  obtain ⟨b1, b2, b3, b4, b5⟩ := set_one (a2 q _ _ (Ne.symm hn) k) v
  exact ⟨b2 p _ _ hn a1, b1, fun r cs z h1 h2 hr => b2 r _ _ h2 (a2 r _ _ h1 hr), a3.trans b3, fun n₀ h1 h2 => (a4 n₀ h1).trans (b4 n₀ h2), b5.trans a5⟩
end Go.Proofs.Ytpfpkghihpcbkaa
