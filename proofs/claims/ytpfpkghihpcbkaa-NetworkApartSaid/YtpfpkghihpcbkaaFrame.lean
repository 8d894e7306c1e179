/- How arguments that came in are opened for a walk: bytes, numbers, arrays of numbers. No function of the program is named here. -/
import Derived.Test.YtpfpkghihpcbkaaKit
import Derived.ProofKit
import Derived.OpenShut
namespace Go.Proofs.Ytpfpkghihpcbkaa
open Go.ChangeShapes Go.WideShapes Go.ChangeAt Go.RowKit
set_option linter.unusedVariables false
set_option linter.unusedSimpArgs false

/-- bytes that came in -/
structure InB (w : World) (a : Option Addr) (n c : Nat) (l : List UInt8) : Prop where
  len : l.length = n
  cap : n ≤ c
  max : c ≤ maxLen
  has : Has w a (vals l)
/-- numbers that came in -/
structure InI (k : IntKind) (w : World) (a : Option Addr) (n c : Nat) (l : List Int) : Prop where
  len : l.length = n
  cap : n ≤ c
  max : c ≤ maxLen
  has : Has w a (l.map (Value.int k))
  wf : ∀ x ∈ l, (Lit.int k x).wf = true

theorem InI.of_trod {H : Type} {enc : TypeId × Value → H} {P : Program} {w : World} {base : Nat} {sp : Nat → Bool} {hd : Bool} {t e : TypeId} {k : IntKind} {a : Option Addr} {n c : Nat} {d : DataW H} {p : List MemPlace}
    (ht : P.underlying t = some (.slice e)) (he : P.underlying e = some (.int k)) (hc : P.cellsOf e = 1) (h : DataW.Trod enc P w base sp hd t (.slice a n c) d p) : ∃ l, InI k w a n c l := by
  obtain ⟨fuel, hf⟩ := h
  rcases open_ints ht he hc hf with ⟨hcs, _⟩ | ⟨x, l, c', zs, hcs, _, hl, hm, hz, _, hcell, hwz⟩
  · simp [Value.cells] at hcs
    obtain ⟨rfl, rfl, rfl⟩ := hcs
    exact ⟨[], rfl, Nat.le_refl _, Nat.zero_le _, Has.nil_ _ _, by simp⟩
  · simp [Value.cells] at hcs
    obtain ⟨rfl, rfl, rfl⟩ := hcs
    refine ⟨zs.take n, by rw [List.length_take, hz]; split <;> omega, hl, hm, fun _ => ⟨x, rfl, fun j u hu => ?_⟩, fun y hy => hwz y (List.mem_of_mem_take hy)⟩
    rw [List.getElem?_map, List.getElem?_take] at hu
    split at hu
    · have hjl : j < zs.length := by
        rcases Nat.lt_or_ge j zs.length with h1 | h1
        · exact h1
        · rw [List.getElem?_eq_none h1] at hu; cases hu
      rw [List.getElem?_eq_getElem hjl] at hu
      injection hu with hu
      rw [hcell j hjl, ← hu, List.getD_eq_getElem?_getD, List.getElem?_eq_getElem hjl]
      rfl
    · cases hu
theorem InB.of_trod {H : Type} {enc : TypeId × Value → H} {P : Program} {w : World} {base : Nat} {sp : Nat → Bool} {hd : Bool} {t e : TypeId} {a : Option Addr} {n c : Nat} {d : DataW H} {p : List MemPlace}
    (ht : P.underlying t = some (.slice e)) (he : P.underlying e = some (.int .u8)) (hc : P.cellsOf e = 1) (h : DataW.Trod enc P w base sp hd t (.slice a n c) d p) : ∃ l, InB w a n c l := by
  obtain ⟨l, hl⟩ := InI.of_trod ht he hc h
  refine ⟨l.map fun n => UInt8.ofNat n.toNat, by simpa using hl.len, hl.cap, hl.max, ?_⟩
  have e1 : vals (l.map fun n => UInt8.ofNat n.toNat) = l.map (Value.int .u8) := by
    simp only [vals, List.map_map]
    refine List.map_congr_left fun x hx => ?_
    have hw := hl.wf x hx
    simp only [Lit.wf, IntKind.min, IntKind.max, IntKind.signed, IntKind.bits, Bool.and_eq_true, decide_eq_true_eq] at hw
    simp at hw
    simp only [Function.comp, Value.int.injEq, true_and, UInt8.toNat_ofNat']
    omega
  rw [e1]
  exact hl.has
/-- an array of numbers by value -/
theorem arr_of_trod {H : Type} {enc : TypeId × Value → H} {P : Program} {w : World} {r : Reach} {b0 base : Nat} {sp : Nat → Bool} {hd : Bool} {t e : TypeId} {k : IntKind} {n : Nat} {v : Value} {d : DataW H} {p : List MemPlace}
    (ht : P.underlying t = some (.array n e)) (he : P.underlying e = some (.int k)) (hc : P.cellsOf e = 1) (hC : P.cellsOf t = n) (hv : Value.okWide P w r b0 t v) (h : DataW.Trod enc P w base sp hd t v d p) :
    ∃ l : List Int, v = .agg (l.map (Value.int k)).toArray ∧ l.length = n ∧ ∀ x ∈ l, (Lit.int k x).wf = true := by
  have hv2 := hv
  simp only [Value.okWide, ht] at hv2
  obtain ⟨cs, rfl, hsz, _⟩ := hv2
  obtain ⟨fuel, hf⟩ := h
  obtain ⟨xs, m, _, _, hlen, hxl, hi⟩ := DataW.trod_array ht hf
  rw [hc] at hi
  rw [hC] at hlen
  simp only [Value.cells] at hlen hi
  have hall : ∀ i, (hi' : i < cs.toList.length) → ∃ x : Int, cs.toList[i] = .int k x ∧ (Lit.int k x).wf = true := by
    intro i hi'
    have h1 := hi i (by omega)
    rw [Nat.mul_one] at h1
    have h2 : (cs.toList.drop i).take 1 = [cs.toList[i]] := by
      rw [List.drop_eq_getElem_cons hi']
      rfl
    rw [h2, List.getElem?_eq_getElem (by omega)] at h1
    obtain ⟨x, hx, _, hw⟩ := DataW.trod_int he h1
    simp at hx
    exact ⟨x, hx, hw⟩
  have hex : ∃ l : List Int, cs.toList = l.map (Value.int k) ∧ ∀ x ∈ l, (Lit.int k x).wf = true := by
    clear hi hlen hsz hf hv hxl
    generalize cs.toList = zs at hall
    induction zs with
    | nil => exact ⟨[], rfl, by simp⟩
    | cons z zs ih =>
      obtain ⟨x, hx, hw⟩ := hall 0 (by simp)
      obtain ⟨l, hl, hlw⟩ := ih (fun i hi' => by
        have h3 := hall (i + 1) (by simpa using hi')
        simpa only [List.getElem_cons_succ] using h3)
      simp at hx
      refine ⟨x :: l, by simp [hx, hl], fun y hy => ?_⟩
      rcases List.mem_cons.1 hy with rfl | hy
      · exact hw
      · exact hlw y hy
  obtain ⟨l, hl, hw⟩ := hex
  refine ⟨l, ?_, ?_, hw⟩
  · rw [← hl]
  · rw [hl, List.length_map] at hlen
    exact hlen
end Go.Proofs.Ytpfpkghihpcbkaa
