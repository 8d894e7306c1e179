/- A range over an iterator that need not end by itself. The iterator hands over f 0, f 1, .. as long as there are such, and reads what Rd says; the caller's word says how many rounds there are at most, and that what the iterator reads lies as it lay. No function of the program is named here. -/
import Derived.RangeFuncNested
import Derived.RangeFuncLeaves
namespace Go.Proofs.Ytpfpkghihpcbkaa
open Go.RowKit
set_option linter.unusedVariables false
set_option linter.unusedSimpArgs false
variable {F : Fence} {n : Nat} {P : Program}

/-- what an iterator's function owes: at each caller that bounds the rounds by M and keeps what is read -/
def Gives (F : Fence) (n : Nat) (P : Program) (g : Nat) (lb : Array Value) (f : Nat → Option Int) (M : Nat) (Rd : World → Prop) : Prop :=
  ∀ (l : Nat) (J : Nat → World → Prop) (Jx : World → Prop) (W : World),
    (∀ k A B, J k A → Below A.heap.size A B → J k B) → (∀ k A, J k A → k ≤ M ∧ Rd A) →
    (∀ k x A, J k A → f k = some x → YieldAt F (n - 1) P l #[.int .i64 x] A fun e B => (e = .returned (.bool true) ∧ J (k + 1) B) ∨ (e = .returned (.bool false) ∧ Jx B)) →
    J 0 W → CallsIn F n P g (#[.func (.yield l) #[] #[]] ++ lb) W fun e B => (∃ v, e = .returned v) ∧ ((∃ k, f k = none ∧ J k B) ∨ Jx B)

/-- nothing that is no cells and lies at b or beyond turns, and what lies at b or beyond and is cells stays -/
def roundEnd (b : Nat) (I : Nat → World → Prop) (Ix : Code → World → Prop) (k : Nat) (W : World) : Exit → Act → World → Prop
  | .normal, _, V => KeepsFrom b W V ∧ I (k + 1) V
  | .ret, _, V => KeepsFrom b W V ∧ Ix .ret V
  | .exit id, _, V => KeepsFrom b W V ∧ Ix (.exit id) V
  | .goto t, _, V => KeepsFrom b W V ∧ Ix (.goto t) V
  | .panic _, _, _ => False
  | .outgrown, _, _ => False

theorem grown_of_below {A B : World} (h : Below A.heap.size A B) : A.grownBy B none := ⟨h.os, h.tape, h.output, h.size, fun k hk _ => h.block k hk⟩
theorem below_of_grown {A B : World} (h : A.grownBy B none) : Below A.heap.size A B := ⟨h.os, h.tape, h.output, h.size, fun k hk => h.block k hk (by simp)⟩
theorem own_later {β : Type} {b : Nat} {I : β → World → Prop} (h : OwnFrom b I) {s : β} {A B : World} (hs : I s A) (hb : Below A.heap.size A B) : I s B :=
  h s A B none hs (grown_of_below hb) (fun r e => by cases e)

/-- the mark of a loop's block for deferred calls -/
def mark (D : Nat) : Deferred := { target := .collected D, args := #[] }

/-- the law of the statement -/
theorem wpIn_counted {g : Operand} {ps : Array Tmp} {assign body : Code} {Q : Exit → Act → World → Prop} {a : Act} {w : World}
    (hro : F.round = none) (h1 : 1 ≤ n) {gf : Nat} {lb : Array Value} (hg : a.eval g = .func (.func gf) #[] lb) (hF : F.fn gf) (eg : ∀ args w, (callFunc gf args).run P w = .ok (.enter gf args) w)
    {f : Nat → Option Int} {M : Nat} {Rd : World → Prop} (hseq : Gives F (n - 1) P gf lb f M Rd) (hps : ps.size = 1)
    (I : Nat → World → Prop) (Ix : Code → World → Prop) (hI : OwnFrom w.heap.size I) (hIx : OwnFrom w.heap.size Ix) (hR : ∀ k A, I k A → k ≤ M ∧ Rd A) (h0 : I 0 w) (a₁ : Int → Act)
    (hassign : ∀ (l : Nat) (x : Int) (W : World) (K : Act → World → Prop), K (a₁ x) W →
      assign.wpIn (F.inRound l) (n - 1 - 1) P (Exit.then K (fun _ _ _ => False)) { tmps := (ps.zip #[.int .i64 x]).foldl (fun t (p, v) => t.setIfInBounds p v) a.tmps, defers := [] } W)
    (hbody : ∀ (l k : Nat) (x : Int) (W : World), I k W → f k = some x → body.wpIn (F.inRound l) (n - 1 - 1) P (roundEnd w.heap.size I Ix k W) (a₁ x) W)
    (hdone : ∀ (k : Nat) (W : World), f k = none → I k W → W.heap[w.heap.size]? = some (.deferred (some [])) → Q .normal { a with defers := mark w.heap.size :: a.defers } W)
    (hstop : ∀ (c : Code) (W : World), Ix c W → W.heap[w.heap.size]? = some (.deferred (some [])) → c.wpIn F n P Q { a with defers := mark w.heap.size :: a.defers } W) :
    (Code.rangeFunc g ps assign body).wpIn F n P Q a w := by
  obtain ⟨b, hb⟩ : ∃ b, w.heap.size = b := ⟨_, rfl⟩
  refine wpIn_rangeFunc fun fn hfn => ?_
  rw [hro]
  rw [hb] at hI hIx hbody hdone hstop
  -- the record, in a state and with a jump pending
  obtain ⟨rc, hrc⟩ : ∃ rc : LoopState → Option Code → Loop, ∀ s j, rc s j = { state := s, pending := j, fn, tmps := a.tmps, params := ps, assign, body, defers := b } := ⟨fun s j => _, fun s j => rfl⟩
  have hsz : (w.alloc (.deferred (some []))).heap.size = b + 1 := by rw [World.size_alloc, hb]
  -- what lies there between two rounds
  let J : Nat → World → Prop := fun k W => I k W ∧ W.heap[b + 1]? = some (.loop (rc .ready none)) ∧ W.heap[b]? = some (.deferred (some []))
  let Jx : World → Prop := fun W => ∃ c, Ix c W ∧ W.heap[b + 1]? = some (.loop (rc .done (some c))) ∧ W.heap[b]? = some (.deferred (some []))
  obtain ⟨S, hS⟩ : ∃ S, (w.alloc (.deferred (some []))).alloc (.loop (rc .ready none)) = S := ⟨_, rfl⟩
  have start : J 0 S := by
    rw [← hS]
    refine ⟨hI.alloc _ (hI.alloc _ h0), ?_, ?_⟩
    · have h := World.alloc_heap_new (w.alloc (.deferred (some []))) (.loop (rc .ready none))
      rwa [hsz] at h
    · have h := World.alloc_heap_new w (.deferred (some []))
      rw [hb] at h
      exact (Below.heap_alloc _ _ _ (by omega)).trans h
  refine ⟨b + 1, [mark b], S, { target := .fn (.func gf) lb, args := #[.func (.yield (b + 1)) #[] #[]] }, S, gf, #[.func (.yield (b + 1)) #[] #[]] ++ lb, S, ?_, ?_, ?_, ?_, fun _ => h1, ?_⟩
  · have h := run_enterLoop_outer (P := P) (w := w) fn a.tmps ps assign body
    rw [hb, ← hrc, hS] at h
    exact h
  · simp only [resolve, hg]
    simp [go_sem]
  · intro q hq
    simp [Target.leads] at hq
    exact hq ▸ hF
  · simp [invoke, go_sem, eg]
  · refine (hseq (b + 1) J Jx _ ?_ (fun k A h => hR k A h.1) ?_ start).mono ?_
    · rintro k A B ⟨i1, i2, i3⟩ hB
      exact ⟨own_later hI i1 hB, (hB.block _ (Array.getElem?_eq_some_iff.1 i2).1).trans i2, (hB.block _ (Array.getElem?_eq_some_iff.1 i3).1).trans i3⟩
    · rintro k x A ⟨i1, i2, i3⟩ hx
      have hy := run_yield (P := P) (args := #[.int .i64 x]) i2 (by rw [hrc]; simp [hps])
      rw [hrc] at hy
      refine ⟨fn, _, assign, body, hy, roundIn_of_wpIn hfn (hassign (b + 1) x A _ ?_)⟩
      have hbr := run_beginRound (P := P) i2 (by rw [hrc])
      refine ⟨_, hbr, ?_⟩
      have hlt : b + 1 < A.heap.size := (Array.getElem?_eq_some_iff.1 i2).1
      obtain ⟨V, hV⟩ : ∃ V, A.putObj (b + 1) (.loop { rc .ready none with state := .busy }) = V := ⟨_, rfl⟩
      have v1 : I k V := by rw [← hV]; exact hI.putObj _ i1 (by omega) i2 rfl
      have v2 : V.heap[b + 1]? = some (.loop { rc .ready none with state := .busy }) := by rw [← hV]; exact World.putObj_heap_same hlt
      have v3 : V.heap[b]? = some (.deferred (some [])) := by rw [← hV]; exact (World.putObj_heap_other (by omega)).trans i3
      rw [hV]
      refine wpIn_mono (hbody (b + 1) k x V v1 hx) ?_
      -- a round's end, whatever way it is left
      have fin : ∀ (j : Option Code) (Z : World), KeepsFrom b V Z → (∀ s, (Instr.endRound (b + 1) j).run P Z = .ok (.bool j.isNone) (Z.putObj (b + 1) (.loop (rc (if j.isNone then .ready else .done) j))) ∧ Z.heap[b + 1]? = some (.loop { rc .ready none with state := .busy }) ∧
          (Z.putObj (b + 1) s).heap[b + 1]? = some s ∧ (Z.putObj (b + 1) s).heap[b]? = some (.deferred (some []))) := fun j Z hZ s => by
        have z2 := hZ.same _ _ (by omega) v2 rfl
        have z3 := hZ.same _ _ (Nat.le_refl _) v3 rfl
        have he := run_endRound (P := P) j z2
        rw [hrc] at he ⊢
        exact ⟨he, z2, World.putObj_heap_same (Array.getElem?_eq_some_iff.1 z2).1, (World.putObj_heap_other (by omega)).trans z3⟩
      have go : ∀ (c : Code) (Z : World), KeepsFrom b V Z → Ix c Z → ∃ v Z', (Instr.endRound (b + 1) (some c)).run P Z = .ok v Z' ∧ ((Ending.returned v = .returned (.bool true) ∧ J (k + 1) Z') ∨ (Ending.returned v = .returned (.bool false) ∧ Jx Z')) := fun c Z hZ hc => by
        obtain ⟨q1, q2, q3, q4⟩ := fin (some c) Z hZ (.loop (rc .done (some c)))
        exact ⟨_, _, q1, .inr ⟨rfl, c, hIx.putObj _ hc (by omega) q2 rfl, q3, q4⟩⟩
      rintro e a3 Z hp
      cases e with
      | normal =>
        obtain ⟨hZ, hi⟩ := hp
        obtain ⟨q1, q2, q3, q4⟩ := fin none Z hZ (.loop (rc .ready none))
        exact ⟨_, _, q1, .inl ⟨rfl, hI.putObj _ hi (by omega) q2 rfl, q3, q4⟩⟩
      | ret => exact go _ Z hp.1 hp.2
      | exit id => exact go _ Z hp.1 hp.2
      | goto t => exact go _ Z hp.1 hp.2
      | panic ch => exact hp.elim
      | outgrown => exact hp.elim
    · rintro e B ⟨⟨v, rfl⟩, ⟨k, hk, i1, i2, i3⟩ | ⟨c, i1, i2, i3⟩⟩
      · have he := run_endLoop (P := P) i2 (by rw [hrc]; simp)
        rw [hrc] at he i2
        exact ⟨none, _, he, hdone k _ hk (hI.putObj _ i1 (by omega) i2 rfl) ((World.putObj_heap_other (by omega)).trans i3)⟩
      · have he := run_endLoop (P := P) i2 (by rw [hrc]; simp)
        rw [hrc] at he i2
        exact ⟨some c, _, he, hstop c _ (hIx.putObj _ i1 (by omega) i2 rfl) ((World.putObj_heap_other (by omega)).trans i3)⟩

/-! the marks at a function's return -/
theorem leaves_marks {fn : Func} {tmps : Array Value} {R : Ending → World → Prop} : ∀ (ds : List Nat) (W : World), ds.Nodup → (∀ D ∈ ds, W.heap[D]? = some (.deferred (some []))) →
    (∀ V, (∀ k, (∀ D ∈ ds, k ≠ D) → V.heap[k]? = W.heap[k]?) → V.os = W.os → V.tape = W.tape → V.output = W.output → V.heap.size = W.heap.size → ∃ v, (results fn tmps).run P V = .ok v V ∧ R (.returned v) V) →
    LeavesInM F n P fn tmps R (ds.map mark) .returning W
  | [], W, _, _, h => h W (fun _ _ => rfl) rfl rfl rfl rfl
  | D :: ds, W, hn, hd, h => by
    refine ⟨by simp, .inl ⟨D, _, rfl, run_takeDeferred (hd D List.mem_cons_self), ?_⟩⟩
    obtain ⟨hD, hn'⟩ := List.nodup_cons.1 hn
    refine leaves_marks ds _ hn' (fun E hE => (World.putObj_heap_other (fun e => by subst e; exact hD hE)).trans (hd E (List.mem_cons_of_mem _ hE))) fun V hV o1 o2 o3 o4 => ?_
    refine h V (fun k hk => ?_) o1 o2 o3 (o4.trans World.putObj_size)
    rw [hV k (fun E hE => hk E (List.mem_cons_of_mem _ hE)), World.putObj_heap_other (hk D List.mem_cons_self)]
end Go.Proofs.Ytpfpkghihpcbkaa
