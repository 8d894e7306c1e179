/- The walk of theseuslaw08.TableSpoilt. -/
import Derived.Test.YtenkpoppbjgclaaL08
import Derived.Test.YtenkpoppbjgclaaRef08t
import Derived.Test.YtenkpoppbjgclaaOwnR
import Derived.Test.YtenkpoppbjgclaaTblLaws
import Derived.Deep.DeepCutAuto
import Derived.Deep.RegionHeld3
import Derived.BigQuiet
import Derived.Deep.MidRow
import Derived.Lib.MinMax
namespace Go.Proofs.Ytenkpoppbjgclaa
open Go.RowKit
set_option linter.unusedVariables false
set_option linter.unusedSimpArgs false

attribute [local go_sem ↓] sliced_cut
attribute [local go_sem] cutA_zero
def stepM (e : Int) (r : Rl) : Int := if r.act = 1 then max e r.nxt else e
def mostT (l : List Rl) : Int := l.foldl stepM (-1)
theorem most_succ (l : List Rl) (k : Nat) (hk : k < l.length) : mostT (l.take (k + 1)) = stepM (mostT (l.take k)) l[k] := by
  unfold mostT
  rw [List.take_succ_eq_append_getElem hk, List.foldl_append]
  rfl
theorem most_or : ∀ (l : List Rl) (e : Int), l.foldl stepM e = e ∨ ∃ r ∈ l, r.act = 1 ∧ r.nxt = l.foldl stepM e
  | [], _ => .inl rfl
  | r :: l, e => by
    rw [List.foldl_cons]
    rcases most_or l (stepM e r) with h | ⟨x, h1, h2, h3⟩
    · rw [h]
      unfold stepM
      split
      · rename_i ha
        rcases Int.le_total e r.nxt with g | g
        · right
          exact ⟨r, List.mem_cons_self, ha, by omega⟩
        · left
          omega
      · exact .inl rfl
    · exact .inr ⟨x, List.mem_cons_of_mem _ h1, h2, h3⟩
theorem most_fewer {l : List Rl} {m e : Int} (h : Tbl l m) (he : mostT l = e) (h0 : 0 ≤ e) : mayT l e = 10 := by
  rcases most_or l (-1) with g | ⟨r, h1, h2, h3⟩
  · unfold mostT at he
    omega
  · exact may_fewer h ⟨r, h1, h2, by unfold mostT at he; omega⟩
theorem turned_eq : ∀ (l : List Rl) (k : Nat) (h : k + 1 < l.length), (l.set k l[k + 1]).set (k + 1) l[k] = l.take k ++ l[k + 1] :: l[k] :: l.drop (k + 2)
  | x :: y :: l, 0, _ => rfl
  | x :: l, k + 1, h => by
    have ih := turned_eq l k (by simpa using h)
    simp only [List.set_cons_succ, List.getElem_cons_succ, List.take_succ_cons, List.cons_append]
    rw [ih]
    rfl
theorem rcells_set : ∀ (l : List Rl) (k : Nat) (r : Rl), k < l.length → ((((rcells l).set (k * 4) (.int .u32 (r.at_ : Int))).set (k * 4 + 1) (.int .i64 r.len)).set (k * 4 + 2) (.int .i64 r.act)).set (k * 4 + 3) (.int .i64 r.nxt) = rcells (l.set k r)
  | x :: l, 0, r, _ => rfl
  | x :: l, k + 1, r, h => by
    have ih := rcells_set l k r (by simpa using h)
    have e : ∀ (j i : Nat) (t : List Value) (a b c d v : Value), i = (k + 1) * 4 + j → (a :: b :: c :: d :: t).set i v = a :: b :: c :: d :: t.set (k * 4 + j) v := fun j i t a b c d v hi => by
      rw [hi, show (k + 1) * 4 + j = (k * 4 + j) + 1 + 1 + 1 + 1 by omega]
      rfl
    rw [List.set_cons_succ, rcells_cons, rcells_cons, ← ih]
    simp only [rcell, List.cons_append, List.nil_append]
    rw [e 0 ((k + 1) * 4) _ _ _ _ _ _ rfl, e 1 ((k + 1) * 4 + 1) _ _ _ _ _ _ rfl, e 2 ((k + 1) * 4 + 2) _ _ _ _ _ _ rfl, e 3 ((k + 1) * 4 + 3) _ _ _ _ _ _ rfl]
    rfl
section
variable {e : TypeId} {base g n cap : Nat} {l : List Rl} {w : World}
theorem own_set (h : w.ownsRow base e 4 (.slice (some ⟨g, 0, none⟩) n cap) n (rcells l)) (k : Nat) (r : Rl) (hk : k < l.length) : (w.setCells g (k * 4) (rcell r)).ownsRow base e 4 (.slice (some ⟨g, 0, none⟩) n cap) n (rcells (l.set k r)) := by
  have h1 := (h.stored (k * 4) (.int .u32 (r.at_ : Int))).1
  have h2 := (h1.stored (k * 4 + 1) (.int .i64 r.len)).1
  have h3 := (h2.stored (k * 4 + 2) (.int .i64 r.act)).1
  have h4 := (h3.stored (k * 4 + 3) (.int .i64 r.nxt)).1
  rw [rcells_set l k r hk] at h4
  exact h4
theorem own_there (h : w.ownsRow base e 4 (.slice (some ⟨g, 0, none⟩) n cap) n (rcells l)) (k : Nat) (hk : k < l.length) : w.there g (k * 4) 4 := fun j hj => by
  have hl := h.1
  rw [rcells_length] at hl
  refine ⟨?_, h.frozenAt _⟩
  rw [h.cellAt (j := k * 4 + j) (by omega), List.getElem?_eq_getElem (by rw [rcells_length]; omega)]
  rfl
theorem below_rule {B : Nat} {w0 : World} (hb : Below B w0 w) (hg : B ≤ g) (k : Nat) (r : Rl) : Below B w0 (w.setCells g (k * 4) (rcell r)) :=
  (((hb.setCell (p := ⟨g, k * 4, none⟩) hg _).setCell (p := ⟨g, k * 4 + 1, none⟩) hg _).setCell (p := ⟨g, k * 4 + 1 + 1, none⟩) hg _).setCell (p := ⟨g, k * 4 + 1 + 1 + 1, none⟩) hg _
end
theorem isr_nil8 (w : World) : IsR w (.slice none 0 0) [] := ⟨none, 0, 0, rfl, Nat.le_refl _, Nat.zero_le _, rfl, Has.nil_ _ _⟩
set_option maxRecDepth 100000 in
set_option maxHeartbeats 8000000 in
theorem walkTableSpoilt (a0 : Option Addr) (n0 c0 : Nat) (l0 : List Rl) (a1 a2 : Int) (w : World) (w0 : InR w a0 n0 c0 l0) (w1 : (Lit.int .u8 a1).wf = true) (w2 : (Lit.int .u8 a2).wf = true) :
    Calls Try.prog 5 #[.slice a0 n0 c0, .int .u8 a1, .int .u8 a2] w fun e w' => e = .returned (.bool true) ∧ Below w.heap.size w w' := by
  obtain ⟨hl1, hh1⟩ := bounds_u8 w1
  obtain ⟨p, rfl⟩ := Int.eq_ofNat_of_zero_le hl1
  have hp : (p : Int) ≤ 255 := by omega
  clear w1 hl1 hh1
  obtain ⟨hl2, hh2⟩ := bounds_u8 w2
  obtain ⟨p2, rfl⟩ := Int.eq_ofNat_of_zero_le hl2
  have hp2 : (p2 : Int) ≤ 255 := by omega
  clear w2 hl2 hh2
  have hat := w0.at_
  have VR := Lib.hid w0.isr
  obtain ⟨m, hm⟩ : ∃ m : Nat, 1 + p = m := ⟨_, rfl⟩
  have hmw : IntKind.i64.wrap (1 + (p : Int)) = (m : Int) := by rw [IntKind.wrap_i64]; omega
  have FT := Lib.hid (fun w hv => rfitT_any (.slice a0 n0 c0) l0 m w hv hat (by omega) (by omega))
  have hT := fitT_tbl m l0 (by omega)
  have hTl := fitT_le m l0
  have hTat := Tbl.at_ (m := m) hat
  generalize fitT m l0 = T at *
  obtain ⟨NT, hNT⟩ : ∃ NT, T.length = NT := ⟨_, rfl⟩
  have HNT := Lib.hid hNT
  have hNT2 : (NT : Int) ≤ 20 := by omega
  have HTT := Lib.hid hT
  have HTA := Lib.hid hTat
  have HRI := Lib.hid rule_info
  have FM : Hid (∀ v w, IsR w v T → Calls Try.prog 16 #[v, .int .i64 m] w fun e w' => e = .returned (.int .i64 0) ∧ Below w.heap.size w w') := fun v w hv => by
    have h := tmay_any v T m w hv hTat
    rw [mayT_ok.2 ⟨hT.ok, hT.ord⟩] at h
    exact h
  have FK : Hid (∀ k v w, IsR w v (T.take k) → Calls Try.prog 16 #[v, .int .i64 m] w fun e w' => e = .returned (.int .i64 0) ∧ Below w.heap.size w w') := fun k v w hv => by
    have h := tmay_any v (T.take k) m w hv (fun x hx => hTat x (List.mem_of_mem_take hx))
    rw [may_take hT k] at h
    exact h
  have FZ : Hid (∀ w, Calls Try.prog 16 #[.slice none 0 0, .int .i64 (-1)] w fun e w' => e = .returned (.int .i64 0) ∧ Below w.heap.size w w') := fun w => tmay_any (.slice none 0 0) [] (-1) w (isr_nil8 w) (by simp)
  have FE : Hid (∀ e : Int, mostT T = e → 0 ≤ e → ∀ v w, IsR w v T → Calls Try.prog 16 #[v, .int .i64 e] w fun x w' => x = .returned (.int .i64 10) ∧ Below w.heap.size w w') := fun e he h0 v w hv => by
    have h := tmay_any v T e w hv hTat
    rw [most_fewer hT he h0] at h
    exact h
  have CC : Hid (∀ k (h1 : k + 1 < T.length) (w : World), Calls Try.prog 20 #[.agg #[.int .u32 ((T[k]'(Nat.lt_of_succ_lt h1)).at_ : Int), .int .i64 (T[k]'(Nat.lt_of_succ_lt h1)).len, .int .i64 (T[k]'(Nat.lt_of_succ_lt h1)).act, .int .i64 (T[k]'(Nat.lt_of_succ_lt h1)).nxt], .agg #[.int .u32 (T[k + 1].at_ : Int), .int .i64 T[k + 1].len, .int .i64 T[k + 1].act, .int .i64 T[k + 1].nxt]] w fun e w' => e = .returned (.int .i64 (-1)) ∧ Below w.heap.size w w') := fun k h1 w => by
    have h := compr_any (T[k]'(Nat.lt_of_succ_lt h1)).at_ T[k + 1].at_ (T[k]'(Nat.lt_of_succ_lt h1)).len (T[k]'(Nat.lt_of_succ_lt h1)).act (T[k]'(Nat.lt_of_succ_lt h1)).nxt T[k + 1].len T[k + 1].act T[k + 1].nxt w
    rw [show cmpI (T[k]'(Nat.lt_of_succ_lt h1)).at_ (T[k]'(Nat.lt_of_succ_lt h1)).len T[k + 1].at_ T[k + 1].len = -1 from ord_next hT.ord k h1] at h
    exact h
  clear hNT hTl hat hT hTat w0 hm
  have HB0 := Lib.hid (Below.refl w.heap.size w)
  go_enter Try.func5, Try.ntmps5
  go_wp2_with fail
  refine (shown8 w).mono ?_
  rintro e1 w1 ⟨rfl, hb⟩
  have HB1 := Lib.hid (HB0.out.trans (hb.mono HB0.out.size))
  replace VR := Lib.hid (VR.out.bel hb)
  clear hb HB0
  go_wp2_with fail
  refine (FT.out w1 VR.out).mono ?_
  rintro e1 w2 ⟨tv, rfl, hown, hb⟩
  have HB2 := Lib.hid (HB1.out.trans (hb.mono HB1.out.size))
  replace VR := Lib.hid (VR.out.bel hb)
  have VT := Lib.hid (OwnR.mk hown (Nat.le_refl _))
  clear hb HB1
  clear hown FT
  clear VR
  obtain ⟨AT, cT, rfl, hTc, hTm, _⟩ := VT.out.isr.slice
  rw [HNT.out] at hTc
  have hTc2 : (NT : Int) ≤ (cT : Int) := by omega
  have hTm2 : cT ≤ maxLen := hTm
  simp only [HNT.out] at VT ⊢
  clear hTc hTm
  go_wp2_with fail
  refine (FM.out _ w2 VT.out.isr).mono ?_
  rintro e1 w3 ⟨rfl, hb⟩
  have HB3 := Lib.hid (HB2.out.trans (hb.mono HB2.out.size))
  replace VT := Lib.hid (VT.out.bel hb)
  clear hb HB2
  go_wp2_with fail
  refine (FZ.out w3).mono ?_
  rintro e1 w4 ⟨rfl, hb⟩
  have HB4 := Lib.hid (HB3.out.trans (hb.mono HB3.out.size))
  replace VT := Lib.hid (VT.out.bel hb)
  clear hb HB3
  go_wp2_with fail
  clear FM FZ
  go_loopw [10, 11] (fun x i wr => ∃ k : Nat, ∃ e : Int, k ≤ NT ∧ i = .int .i64 k ∧ x = .int .i64 e ∧ Hid (mostT (T.take k) = e) ∧ Hid (OwnR 27 w1.heap.size (.slice AT NT cT) T wr) ∧ Hid (Below w.heap.size w wr)) (fun _ i _ => NT - (intOf i).toNat)
  case atStart => exact ⟨0, -1, by omega, rfl, rfl, rfl, VT, HB4⟩
  case round =>
    clear VT HB4
    obtain ⟨k, e, hk, rfl, rfl, HM, VT, HBr⟩ := hrel
    by_cases hlt : k < NT
    · have hkl : k < T.length := by rw [HNT.out]; exact hlt
      have hki : (k : Int) < (NT : Int) := by omega
      have hkz : (0 : Int) ≤ (k : Int) := by omega
      have hkc : (k : Int) ≤ (cT : Int) := by omega
      obtain ⟨ad, had, hqq⟩ := VT.out.isr.has'.at_ (k := k * 4) (by rw [rcells_length]; omega)
      clear hqq
      subst had
      have HF : Hid (∀ wx, Below wr.heap.size wr wx → wx.cell? (ad.add (k * 4)) = some (.int .u32 (T[k].at_ : Int)) ∧ wx.cell? ⟨(ad.add (k * 4)).block, (ad.add (k * 4)).off + 1, none⟩ = some (.int .i64 T[k].len) ∧ wx.cell? ⟨(ad.add (k * 4)).block, (ad.add (k * 4)).off + 2, none⟩ = some (.int .i64 T[k].act) ∧ wx.cell? ⟨(ad.add (k * 4)).block, (ad.add (k * 4)).off + 3, none⟩ = some (.int .i64 T[k].nxt)) := fun wx hx => (VT.out.bel hx).isr.has'.four k hkl
      have HD := Lib.hid (Below.refl wr.heap.size wr).drew
      have FKk : Hid (∀ wx, Below wr.heap.size wr wx → Calls Try.prog 16 #[.slice (some ad) k cT, .int .i64 m] wx fun e w' => e = .returned (.int .i64 0) ∧ Below wx.heap.size wx w') := fun wx hx => FK.out k _ wx ⟨some ad, k, cT, rfl, by omega, hTm2, by rw [List.length_take]; omega, by have h := ((VT.out.bel hx).isr.has').take (k * 4); rw [← rcells_take] at h; exact h⟩
      have hs := most_succ T k hkl
      rw [HM.out] at hs
      have HS := Lib.hid hs
      have HNX : Hid (∀ wd, Below wr.heap.size wr wd → Hid (OwnR 27 w1.heap.size (.slice (some ad) NT cT) T wd) ∧ Hid (Below w.heap.size w wd)) := fun wd hx => ⟨VT.out.bel hx, HBr.out.trans (hx.mono HBr.out.size)⟩
      clear hs
      go_upto_region 10 with fail
      go_cut [62] (fun t wx => t = .bool false ∧ Hid (Below wr.heap.size wr wx))
      case first =>
        rcases Nat.eq_zero_or_pos k with hk0 | hk0
        · have hd1 : decide ((0 : Int) < (k : Int)) = false := decide_eq_false (by omega)
          have hd2 : decide (0 < k) = false := decide_eq_false (by omega)
          have hd3 : decide ((k : Int) > 0) = false := hd1
          have hz : (k : Int) ≤ 0 := by omega
          clear hk0
          refine wp_region_held_drew (S := fun w' => True) (by kernel_rfl) (trivial) (fun hHeld => ?_)
          refine wpAnyH_take (i := 0) (oi := ({ dst := some 40, op := Op.move (Operand.tmp 9), type := 22, pos := "law.go:65", after := #[], guard := none } : Oper)) (v := ?_) rfl (by kernel_rfl) (by kernel_rfl) (by kernel_rfl) (fun _ _ _ h => h) (Or.inl ⟨by rfl, ?_⟩) (by assumption) ?_
          rotate_left 1
          · intro w hSw
            (try dsimp only at hSw)
            go_simp
            try with_reducible rfl
          try simp only [Act.put, List.setIfInBounds_toArray, List.set_cons_zero, List.set_cons_succ]
          refine wpAnyH_take (i := 1) (oi := ({ dst := some 41, op := Op.move (Operand.tmp 11), type := 3, pos := "law.go:65", after := #[], guard := none } : Oper)) (v := ?_) rfl (by kernel_rfl) (by kernel_rfl) (by kernel_rfl) (fun _ _ _ h => h) (Or.inl ⟨by rfl, ?_⟩) (by assumption) ?_
          rotate_left 1
          · intro w hSw
            (try dsimp only at hSw)
            go_simp
            try with_reducible rfl
          try simp only [Act.put, List.setIfInBounds_toArray, List.set_cons_zero, List.set_cons_succ]
          refine wpAnyH_take (i := 2) (oi := ({ dst := some 42, op := Op.slice 22 (Operand.tmp 40) none (some (Operand.tmp 41)) none, type := 22, pos := "law.go:65", after := #[{ on := 0, ground := Ground.data }, { on := 1, ground := Ground.data }], guard := none } : Oper)) (v := ?_) rfl (by kernel_rfl) (by kernel_rfl) (by kernel_rfl) (fun _ _ _ h => h) (Or.inl ⟨by rfl, ?_⟩) (by assumption) ?_
          rotate_left 1
          · intro w hSw
            (try dsimp only at hSw)
            go_simp
            try with_reducible rfl
          try simp only [Act.put, List.setIfInBounds_toArray, List.set_cons_zero, List.set_cons_succ]
          refine wpAnyH_take (i := 3) (oi := ({ dst := some 43, op := Op.move (Operand.tmp 8), type := 3, pos := "law.go:65", after := #[], guard := none } : Oper)) (v := ?_) rfl (by kernel_rfl) (by kernel_rfl) (by kernel_rfl) (fun _ _ _ h => h) (Or.inl ⟨by rfl, ?_⟩) (by assumption) ?_
          rotate_left 1
          · intro w hSw
            (try dsimp only at hSw)
            go_simp
            try with_reducible rfl
          try simp only [Act.put, List.setIfInBounds_toArray, List.set_cons_zero, List.set_cons_succ]
          refine wpAnyH_ready (rs := [4]) (by kernel_rfl) (by simp) ?_
          refine AllReadyH.cons rfl (fun K hK => ?_) AllReadyH.nil
          go_simp
          go_at_call 16
          refine (FKk.out _ HD.out).mono ?_
          rintro e w8 ⟨rfl, hb8⟩
          have D0 := Lib.hid (HD.out.trans (hb8.mono HD.out.size))
          refine hK.out _ _ (trivial) (fun hHeld => ?_)
          clear hK K
          try simp only [Act.put, List.setIfInBounds_toArray, List.set_cons_zero, List.set_cons_succ]
          clear hb8
          refine wpAnyH_take (i := 5) (oi := ({ dst := some 45, op := Op.binOp BinOp.neq 32 (Operand.tmp 44) (Operand.const (Value.int IntKind.i64 0)) 32, type := 4, pos := "law.go:65", after := #[{ on := 4, ground := Ground.data }], guard := none } : Oper)) (v := ?_) rfl (by kernel_rfl) (by kernel_rfl) (by kernel_rfl) (fun _ _ _ h => h) (Or.inl ⟨by rfl, ?_⟩) (by assumption) ?_
          rotate_left 1
          · intro w hSw
            (try dsimp only at hSw)
            go_simp
            try with_reducible rfl
          try simp only [Act.put, List.setIfInBounds_toArray, List.set_cons_zero, List.set_cons_succ]
          refine wpAnyH_take (i := 6) (oi := ({ dst := some 46, op := Op.move (Operand.tmp 45), type := 4, pos := "law.go:65", after := #[{ on := 5, ground := Ground.data }, { on := 4, ground := Ground.chain }], guard := none } : Oper)) (v := ?_) rfl (by kernel_rfl) (by kernel_rfl) (by kernel_rfl) (fun _ _ _ h => h) (Or.inl ⟨by rfl, ?_⟩) (by assumption) ?_
          rotate_left 1
          · intro w hSw
            (try dsimp only at hSw)
            go_simp
            try with_reducible rfl
          try simp only [Act.put, List.setIfInBounds_toArray, List.set_cons_zero, List.set_cons_succ]
          refine wpAnyH_take (i := 7) (oi := ({ dst := some 47, op := Op.move (Operand.tmp 11), type := 3, pos := "law.go:65", after := #[{ on := 6, ground := Ground.guard }], guard := some (6, false) } : Oper)) (v := ?_) rfl (by kernel_rfl) (by kernel_rfl) (by kernel_rfl) (fun _ _ _ h => h) (Or.inl ⟨by rfl, ?_⟩) (by assumption) ?_
          rotate_left 1
          · intro w hSw
            (try dsimp only at hSw)
            go_simp
            try with_reducible rfl
          try simp only [Act.put, List.setIfInBounds_toArray, List.set_cons_zero, List.set_cons_succ]
          refine wpAnyH_take (i := 8) (oi := ({ dst := some 48, op := Op.binOp BinOp.gtr 3 (Operand.tmp 47) (Operand.const (Value.int IntKind.i64 0)) 3, type := 4, pos := "law.go:65", after := #[{ on := 7, ground := Ground.data }, { on := 6, ground := Ground.guard }], guard := some (6, false) } : Oper)) (v := ?_) rfl (by kernel_rfl) (by kernel_rfl) (by kernel_rfl) (fun _ _ _ h => h) (Or.inl ⟨by rfl, ?_⟩) (by assumption) ?_
          rotate_left 1
          · intro w hSw
            (try dsimp only at hSw)
            go_simp
            try with_reducible rfl
          try simp only [Act.put, List.setIfInBounds_toArray, List.set_cons_zero, List.set_cons_succ]
          refine wpAnyH_take (i := 9) (oi := ({ dst := some 49, op := Op.move (Operand.tmp 48), type := 4, pos := "law.go:65", after := #[{ on := 8, ground := Ground.data }, { on := 6, ground := Ground.chain }, { on := 6, ground := Ground.guard }], guard := some (6, false) } : Oper)) (v := ?_) rfl (by kernel_rfl) (by kernel_rfl) (by kernel_rfl) (fun _ _ _ h => h) (Or.inl ⟨by rfl, ?_⟩) (by assumption) ?_
          rotate_left 1
          · intro w hSw
            (try dsimp only at hSw)
            go_simp
            try with_reducible rfl
          try simp only [Act.put, List.setIfInBounds_toArray, List.set_cons_zero, List.set_cons_succ]
          refine wpAnyH_take (i := 10) (oi := ({ dst := some 50, op := Op.move (Operand.tmp 9), type := 22, pos := "law.go:65", after := #[{ on := 9, ground := Ground.guard }], guard := some (9, true) } : Oper)) (v := undef) rfl (by kernel_rfl) (by kernel_rfl) (by kernel_rfl) (fun _ _ _ h => h) (Or.inr ⟨by rfl, rfl⟩) (by assumption) ?_
          try simp only [Act.put, List.setIfInBounds_toArray, List.set_cons_zero, List.set_cons_succ]
          refine wpAnyH_take (i := 11) (oi := ({ dst := some 51, op := Op.move (Operand.tmp 11), type := 3, pos := "law.go:65", after := #[{ on := 9, ground := Ground.guard }], guard := some (9, true) } : Oper)) (v := undef) rfl (by kernel_rfl) (by kernel_rfl) (by kernel_rfl) (fun _ _ _ h => h) (Or.inr ⟨by rfl, rfl⟩) (by assumption) ?_
          try simp only [Act.put, List.setIfInBounds_toArray, List.set_cons_zero, List.set_cons_succ]
          refine wpAnyH_take (i := 12) (oi := ({ dst := some 52, op := Op.binOp BinOp.sub 3 (Operand.tmp 51) (Operand.const (Value.int IntKind.i64 1)) 3, type := 3, pos := "law.go:65", after := #[{ on := 11, ground := Ground.data }, { on := 9, ground := Ground.guard }], guard := some (9, true) } : Oper)) (v := undef) rfl (by kernel_rfl) (by kernel_rfl) (by kernel_rfl) (fun _ _ _ h => h) (Or.inr ⟨by rfl, rfl⟩) (by assumption) ?_
          try simp only [Act.put, List.setIfInBounds_toArray, List.set_cons_zero, List.set_cons_succ]
          refine wpAnyH_take (i := 13) (oi := ({ dst := some 53, op := Op.indexAddr 22 (Operand.tmp 50) (Operand.tmp 52), type := 0, pos := "law.go:65", after := #[{ on := 10, ground := Ground.data }, { on := 12, ground := Ground.data }, { on := 9, ground := Ground.guard }], guard := some (9, true) } : Oper)) (v := undef) rfl (by kernel_rfl) (by kernel_rfl) (by kernel_rfl) (fun _ _ _ h => h) (Or.inr ⟨by rfl, rfl⟩) (by assumption) ?_
          try simp only [Act.put, List.setIfInBounds_toArray, List.set_cons_zero, List.set_cons_succ]
          refine wpAnyH_take (i := 14) (oi := ({ dst := some 54, op := Op.load 27 (Operand.tmp 53), type := 27, pos := "law.go:65", after := #[{ on := 13, ground := Ground.data }, { on := 9, ground := Ground.guard }], guard := some (9, true) } : Oper)) (v := undef) rfl (by kernel_rfl) (by kernel_rfl) (by kernel_rfl) (fun _ _ _ h => h) (Or.inr ⟨by rfl, rfl⟩) (by assumption) ?_
          try simp only [Act.put, List.setIfInBounds_toArray, List.set_cons_zero, List.set_cons_succ]
          refine wpAnyH_take (i := 15) (oi := ({ dst := some 55, op := Op.move (Operand.tmp 9), type := 22, pos := "law.go:65", after := #[{ on := 9, ground := Ground.guard }], guard := some (9, true) } : Oper)) (v := undef) rfl (by kernel_rfl) (by kernel_rfl) (by kernel_rfl) (fun _ _ _ h => h) (Or.inr ⟨by rfl, rfl⟩) (by assumption) ?_
          try simp only [Act.put, List.setIfInBounds_toArray, List.set_cons_zero, List.set_cons_succ]
          refine wpAnyH_take (i := 16) (oi := ({ dst := some 56, op := Op.move (Operand.tmp 11), type := 3, pos := "law.go:65", after := #[{ on := 9, ground := Ground.guard }], guard := some (9, true) } : Oper)) (v := undef) rfl (by kernel_rfl) (by kernel_rfl) (by kernel_rfl) (fun _ _ _ h => h) (Or.inr ⟨by rfl, rfl⟩) (by assumption) ?_
          try simp only [Act.put, List.setIfInBounds_toArray, List.set_cons_zero, List.set_cons_succ]
          refine wpAnyH_take (i := 17) (oi := ({ dst := some 57, op := Op.indexAddr 22 (Operand.tmp 55) (Operand.tmp 56), type := 0, pos := "law.go:65", after := #[{ on := 15, ground := Ground.data }, { on := 16, ground := Ground.data }, { on := 9, ground := Ground.guard }], guard := some (9, true) } : Oper)) (v := undef) rfl (by kernel_rfl) (by kernel_rfl) (by kernel_rfl) (fun _ _ _ h => h) (Or.inr ⟨by rfl, rfl⟩) (by assumption) ?_
          try simp only [Act.put, List.setIfInBounds_toArray, List.set_cons_zero, List.set_cons_succ]
          refine wpAnyH_take (i := 18) (oi := ({ dst := some 58, op := Op.load 27 (Operand.tmp 57), type := 27, pos := "law.go:65", after := #[{ on := 17, ground := Ground.data }, { on := 9, ground := Ground.guard }], guard := some (9, true) } : Oper)) (v := undef) rfl (by kernel_rfl) (by kernel_rfl) (by kernel_rfl) (fun _ _ _ h => h) (Or.inr ⟨by rfl, rfl⟩) (by assumption) ?_
          try simp only [Act.put, List.setIfInBounds_toArray, List.set_cons_zero, List.set_cons_succ]
          refine wpAnyH_take (i := 19) (oi := ({ dst := some 59, op := Op.call { callee := Callee.value (Operand.func 20), args := #[Operand.tmp 54, Operand.tmp 58], argTypes := #[27, 27] }, type := 3, pos := "law.go:65", after := #[{ on := 14, ground := Ground.data }, { on := 18, ground := Ground.data }, { on := 9, ground := Ground.chain }, { on := 9, ground := Ground.guard }], guard := some (9, true) } : Oper)) (v := undef) rfl (by kernel_rfl) (by kernel_rfl) (by kernel_rfl) (fun _ _ _ h => h) (Or.inr ⟨by rfl, rfl⟩) (by assumption) ?_
          try simp only [Act.put, List.setIfInBounds_toArray, List.set_cons_zero, List.set_cons_succ]
          refine wpAnyH_take (i := 20) (oi := ({ dst := some 60, op := Op.binOp BinOp.neq 3 (Operand.tmp 59) (Operand.const (Value.int IntKind.i64 (-1))) 3, type := 4, pos := "law.go:65", after := #[{ on := 19, ground := Ground.data }, { on := 9, ground := Ground.guard }], guard := some (9, true) } : Oper)) (v := undef) rfl (by kernel_rfl) (by kernel_rfl) (by kernel_rfl) (fun _ _ _ h => h) (Or.inr ⟨by rfl, rfl⟩) (by assumption) ?_
          try simp only [Act.put, List.setIfInBounds_toArray, List.set_cons_zero, List.set_cons_succ]
          refine wpAnyH_take (i := 21) (oi := ({ dst := some 61, op := Op.pick (Operand.tmp 49) (Operand.tmp 60) (Operand.const (Value.bool false)), type := 4, pos := "law.go:65", after := #[{ on := 9, ground := Ground.data }, { on := 20, ground := Ground.data }, { on := 6, ground := Ground.guard }], guard := some (6, false) } : Oper)) (v := ?_) rfl (by kernel_rfl) (by kernel_rfl) (by kernel_rfl) (fun _ _ _ h => h) (Or.inl ⟨by rfl, ?_⟩) (by assumption) ?_
          rotate_left 1
          · intro w hSw
            (try dsimp only at hSw)
            go_simp
            try with_reducible rfl
          try simp only [Act.put, List.setIfInBounds_toArray, List.set_cons_zero, List.set_cons_succ]
          refine wpAnyH_take (i := 22) (oi := ({ dst := some 62, op := Op.pick (Operand.tmp 46) (Operand.const (Value.bool true)) (Operand.tmp 61), type := 4, pos := "law.go:65", after := #[{ on := 6, ground := Ground.data }, { on := 21, ground := Ground.data }], guard := none } : Oper)) (v := ?_) rfl (by kernel_rfl) (by kernel_rfl) (by kernel_rfl) (fun _ _ _ h => h) (Or.inl ⟨by rfl, ?_⟩) (by assumption) ?_
          rotate_left 1
          · intro w hSw
            (try dsimp only at hSw)
            go_simp
            try with_reducible rfl
          try simp only [Act.put, List.setIfInBounds_toArray, List.set_cons_zero, List.set_cons_succ]
          refine wpAnyH_done (by kernel_rfl) ?_ _
          go_wp2_with fail
          go_meet
          exact ⟨rfl, D0⟩
        · obtain ⟨q, hq⟩ : ∃ q, k = q + 1 := ⟨k - 1, by omega⟩
          have hkp : (0 : Int) < (k : Int) := by omega
          have hd1 : decide ((0 : Int) < (k : Int)) = true := decide_eq_true (by omega)
          have hd2 : decide (0 < k) = true := decide_eq_true (by omega)
          have hd3 : decide ((k : Int) > 0) = true := hd1
          have hql : q < T.length := by omega
          have hq0 : (0 : Int) ≤ (q : Int) := by omega
          have hq1 : (q : Int) < (NT : Int) := by omega
          have hsub : IntKind.i64.wrap ((k : Int) - 1) = (q : Int) := by rw [IntKind.wrap_i64]; omega
          have HG : Hid (∀ wx, Below wr.heap.size wr wx → wx.cell? (ad.add (q * 4)) = some (.int .u32 (T[q].at_ : Int)) ∧ wx.cell? ⟨(ad.add (q * 4)).block, (ad.add (q * 4)).off + 1, none⟩ = some (.int .i64 T[q].len) ∧ wx.cell? ⟨(ad.add (q * 4)).block, (ad.add (q * 4)).off + 2, none⟩ = some (.int .i64 T[q].act) ∧ wx.cell? ⟨(ad.add (q * 4)).block, (ad.add (q * 4)).off + 3, none⟩ = some (.int .i64 T[q].nxt)) := fun wx hx => (VT.out.bel hx).isr.has'.four q hql
          have C2 : Hid (∀ w : World, Calls Try.prog 20 #[.agg #[.int .u32 (T[q].at_ : Int), .int .i64 T[q].len, .int .i64 T[q].act, .int .i64 T[q].nxt], .agg #[.int .u32 (T[k].at_ : Int), .int .i64 T[k].len, .int .i64 T[k].act, .int .i64 T[k].nxt]] w fun e w' => e = .returned (.int .i64 (-1)) ∧ Below w.heap.size w w') := by
            subst hq
            exact CC.out q hkl
          obtain ⟨rk, hrk⟩ : ∃ r, T[k] = r := ⟨_, rfl⟩
          obtain ⟨rq, hrq⟩ : ∃ r, T[q] = r := ⟨_, rfl⟩
          rw [hrk] at HF C2
          rw [hrq] at HG C2
          clear hrk hrq hq hk0 CC
          obtain ⟨f0, f1, f2, f3⟩ := HF.out wr (Below.refl _ _)
          obtain ⟨g0, g1, g2, g3⟩ := HG.out wr (Below.refl _ _)
          go_region_held3 (fun w' => (w'.cell? (ad.add (k * 4)) = some (.int .u32 (rk.at_ : Int)) ∧ w'.cell? ⟨(ad.add (k * 4)).block, (ad.add (k * 4)).off + 1, none⟩ = some (.int .i64 rk.len) ∧ w'.cell? ⟨(ad.add (k * 4)).block, (ad.add (k * 4)).off + 2, none⟩ = some (.int .i64 rk.act) ∧ w'.cell? ⟨(ad.add (k * 4)).block, (ad.add (k * 4)).off + 3, none⟩ = some (.int .i64 rk.nxt)) ∧ (w'.cell? (ad.add (q * 4)) = some (.int .u32 (rq.at_ : Int)) ∧ w'.cell? ⟨(ad.add (q * 4)).block, (ad.add (q * 4)).off + 1, none⟩ = some (.int .i64 rq.len) ∧ w'.cell? ⟨(ad.add (q * 4)).block, (ad.add (q * 4)).off + 2, none⟩ = some (.int .i64 rq.act) ∧ w'.cell? ⟨(ad.add (q * 4)).block, (ad.add (q * 4)).off + 3, none⟩ = some (.int .i64 rq.nxt)))
            (first | go_keep | exact ⟨HF.out _ HD.out, HG.out _ HD.out⟩ | exact ⟨HF.out _ D1.out, HG.out _ D1.out⟩ | exact ⟨HF.out _ D0.out, HG.out _ D0.out⟩)
            (first
              | (go_simp; go_at_call 16; refine (FKk.out _ HD.out).mono ?_; rintro e w8 ⟨rfl, hb8⟩; have D0 := Lib.hid (HD.out.trans (hb8.mono HD.out.size)); clear hb8)
              | (go_simp; go_at_call 20; refine (C2.out _).mono ?_; rintro e w9 ⟨rfl, hb9⟩; have D1 := Lib.hid (D0.out.trans (hb9.mono D0.out.size)); clear hb9))
          all_goals
            go_wp2_with fail
            go_meet
            exact ⟨rfl, D1⟩
      case rest =>
        obtain ⟨rfl, HBc⟩ := hcut
        generalize wc = wd at *
        obtain ⟨VTd, HBd⟩ := HNX.out wd HBc.out
        obtain ⟨f0, f1, f2, f3⟩ := HF.out wd HBc.out
        obtain ⟨rk, hrk⟩ : ∃ r, T[k] = r := ⟨_, rfl⟩
        rw [hrk] at HS f0 f1 f2 f3
        clear VT HBr HBc HF HD FKk HNX CC hrk
        by_cases hact : rk.act = 1
        · have t1 : (rk.act == 1) = true := by rw [hact]; rfl
          have HM2 : Hid (mostT (T.take (k + 1)) = max e rk.nxt) := by show _ = _; rw [HS.out]; unfold stepM; rw [if_pos hact]
          clear HS hact HM
          go_wp2_with fail
          go_roundw
          case rel => exact ⟨k + 1, max e rk.nxt, by omega, by go_num, rfl, HM2, VTd, HBd⟩
          case measure => simp [intOf]; omega
        · have t1 : (rk.act == 1) = false := by rw [beq_eq_false_iff_ne]; exact hact
          have HM2 : Hid (mostT (T.take (k + 1)) = e) := by show _ = _; rw [HS.out]; unfold stepM; rw [if_neg hact]
          clear HS hact HM
          go_wp2_with fail
          go_roundw
          case rel => exact ⟨k + 1, e, by omega, by go_num, rfl, HM2, VTd, HBd⟩
          case measure => simp [intOf]; omega
    · obtain rfl : k = NT := by omega
      have hall : T.take k = T := List.take_of_length_le (by rw [HNT.out]; exact Nat.le_refl _)
      rw [hall] at HM
      have HE := Lib.hid (FE.out e HM.out)
      clear hall hlt hk HM FE FK CC
      go_upto_region 14 with fail
      go_cut [83] (fun t wx => t = .bool false ∧ Hid (Below wr.heap.size wr wx))
      case first =>
        rcases (by omega : 0 ≤ e ∨ e < 0) with he | he
        · have hd1 : decide (e ≥ 0) = true := decide_eq_true he
          have hd2 : decide (0 ≤ e) = true := decide_eq_true he
          go_wp2_with fail
          refine (HE.out he _ wr VT.out.isr).mono ?_
          rintro e1 w8 ⟨rfl, hb⟩
          have HB8 := Lib.hid hb
          clear hb
          go_wp2_with fail
          go_meet
          exact ⟨rfl, HB8⟩
        · have hd1 : decide (e ≥ 0) = false := decide_eq_false (by omega)
          have hd2 : decide (0 ≤ e) = false := decide_eq_false (by omega)
          go_wp2_with fail
          go_meet
          exact ⟨rfl, Below.refl _ _⟩
      case rest =>
        obtain ⟨rfl, HBc⟩ := hcut
        generalize wc = wt at *
        have HB0 := Lib.hid (HBr.out.trans (HBc.out.mono HBr.out.size))
        replace VT := Lib.hid (VT.out.bel HBc.out)
        clear HE HBr HBc
        rcases (by omega : k < 2 ∨ 2 ≤ k) with hn | hn
        · have hd1 : decide ((k : Int) < 2) = true := decide_eq_true (by omega)
          have hd2 : decide (k < 2) = true := decide_eq_true (by omega)
          go_wp2_with fail
          go_ret
          exact ⟨rfl, HB0.out⟩
        · have hd1 : decide ((k : Int) < 2) = false := decide_eq_false (by omega)
          have hd2 : decide (k < 2) = false := decide_eq_false (by omega)
          obtain ⟨N1, hN1⟩ : ∃ N1, k = N1 + 1 := ⟨k - 1, by omega⟩
          have hs1 : IntKind.i64.wrap ((k : Int) - 1) = (N1 : Int) := by rw [IntKind.wrap_i64]; omega
          have hs2 : wrap64 ((k : Int) - 1) = (N1 : Int) := IntWalk.wrap64_in _ (by omega) |>.trans (by omega)
          have hz : ((N1 : Int) == 0) = false := by rw [beq_eq_false_iff_ne]; omega
          have hn1 : 0 < N1 := by omega
          obtain ⟨K, hK⟩ : ∃ K, p2 % N1 = K := ⟨_, rfl⟩
          have hKN : K < N1 := by rw [← hK]; exact Nat.mod_lt _ hn1
          have HKM : Hid ((p2 : Int) % (N1 : Int) = (K : Int)) := by show _ = _; omega
          clear hK
          have hKz : (0 : Int) ≤ (K : Int) := by omega
          obtain ⟨K1, hK1⟩ : ∃ K1, K + 1 = K1 := ⟨_, rfl⟩
          have hKw : IntKind.i64.wrap ((K : Int) + 1) = (K1 : Int) := by rw [IntKind.wrap_i64]; omega
          have hKz1 : (0 : Int) ≤ (K1 : Int) := by omega
          have hK0 : (K : Int) < (k : Int) := by omega
          have hK2 : (K1 : Int) < (k : Int) := by omega
          have hK2b : (K1 : Int) ≤ (k : Int) := by omega
          have hK3 : (K1 : Int) ≤ (cT : Int) := by omega
          have hKl : K < T.length := by rw [HNT.out]; omega
          have hKl1 : K1 < T.length := by rw [HNT.out]; omega
          have hKl2 : K + 1 < T.length := by omega
          clear hN1
          go_upto_region 19 with fail
          rw [HKM.out]
          have FW : Hid (∀ v w, IsR w v (T.take K1 ++ T[K] :: T.drop K1) → Calls Try.prog 16 #[v, .int .i64 m] w fun e w' => e = .returned (.int .i64 11) ∧ Below w.heap.size w w') := fun v w hv => by
            have h := tmay_any v _ m w hv (fun x hx => by
              rcases List.mem_append.1 hx with hx | hx
              · exact HTA.out x (List.mem_of_mem_take hx)
              · rcases List.mem_cons.1 hx with rfl | hx
                · exact HTA.out _ (List.getElem_mem hKl)
                · exact HTA.out x (List.mem_of_mem_drop hx))
            subst hK1
            rw [may_twice HTT.out K hKl] at h
            exact h
          have FX : Hid (∀ v w, IsR w v ((T.set K T[K1]).set K1 T[K]) → Calls Try.prog 16 #[v, .int .i64 m] w fun e w' => e = .returned (.int .i64 11) ∧ Below w.heap.size w w') := fun v w hv => by
            have h := tmay_any v _ m w hv (fun x hx => by
              rcases List.mem_or_eq_of_mem_set hx with hx | rfl
              · rcases List.mem_or_eq_of_mem_set hx with hx | rfl
                · exact HTA.out x hx
                · exact HTA.out _ (List.getElem_mem hKl1)
              · exact HTA.out _ (List.getElem_mem hKl))
            subst hK1
            rw [turned_eq T K hKl1, may_turned HTT.out K hKl1] at h
            exact h
          obtain ⟨ad, had, hqq⟩ := VT.out.isr.has'.at_ (k := K * 4) (by rw [rcells_length]; omega)
          clear hqq
          subst had
          have HFK : Hid (∀ wx, Below wt.heap.size wt wx → wx.cell? (ad.add (K * 4)) = some (.int .u32 (T[K].at_ : Int)) ∧ wx.cell? ⟨(ad.add (K * 4)).block, (ad.add (K * 4)).off + 1, none⟩ = some (.int .i64 T[K].len) ∧ wx.cell? ⟨(ad.add (K * 4)).block, (ad.add (K * 4)).off + 2, none⟩ = some (.int .i64 T[K].act) ∧ wx.cell? ⟨(ad.add (K * 4)).block, (ad.add (K * 4)).off + 3, none⟩ = some (.int .i64 T[K].nxt)) := fun wx hx => (VT.out.bel hx).isr.has'.four K hKl
          have HFJ : Hid (∀ wx, Below wt.heap.size wt wx → wx.cell? (ad.add (K1 * 4)) = some (.int .u32 (T[K1].at_ : Int)) ∧ wx.cell? ⟨(ad.add (K1 * 4)).block, (ad.add (K1 * 4)).off + 1, none⟩ = some (.int .i64 T[K1].len) ∧ wx.cell? ⟨(ad.add (K1 * 4)).block, (ad.add (K1 * 4)).off + 2, none⟩ = some (.int .i64 T[K1].act) ∧ wx.cell? ⟨(ad.add (K1 * 4)).block, (ad.add (K1 * 4)).off + 3, none⟩ = some (.int .i64 T[K1].nxt)) := fun wx hx => (VT.out.bel hx).isr.has'.four K1 hKl1
          obtain ⟨rk, hrk⟩ : ∃ r, T[K] = r := ⟨_, rfl⟩
          obtain ⟨rj, hrj⟩ : ∃ r, T[K1] = r := ⟨_, rfl⟩
          rw [hrk] at FW FX HFK
          rw [hrj] at FX HFJ
          clear hrk hrj
          obtain ⟨i0, hi0, hz0, hz1, hz2⟩ := info_parts HRI.out
          have HA1 : Hid (Has wt (some ad) (rcells (T.take K1))) := by have h := (VT.out.isr.has').take (K1 * 4); rw [← rcells_take] at h; exact h
          have HA2 : Hid (Has wt (cutA (some ad) cT K1 4) (rcells (T.drop K1))) := VT.out.isr.has'.cutR (by rw [HNT.out]; omega)
          have HL1 : Hid ((rcells (T.take K1)).length = K1 * 4) := by show _ = _; rw [rcells_length, List.length_take, Nat.min_eq_left (by omega)]
          have HL2 : Hid ((rcells (T.drop K1)).length = (k - K1) * 4) := by show _ = _; rw [rcells_length, List.length_drop, HNT.out]
          have ol0 : Hid ((wt.alloc (.cells #[] 27)).ownsRow wt.heap.size 27 4 (.slice (some ⟨wt.heap.size, 0, none⟩) 0 0) 0 []) := World.ownsRow_lit (e := 27) (size := 4) wt #[] 0 (Nat.le_refl _) (by decide) rfl
          have ol1 : Hid (((wt.alloc (.cells #[.int .u32 (rk.at_ : Int), .int .i64 rk.len, .int .i64 rk.act, .int .i64 rk.nxt] 27)).alloc (.cells #[] 27)).ownsRow wt.heap.size 27 4 (.slice (some ⟨wt.heap.size + 1, 0, none⟩) 0 0) 0 []) := by
            have := World.ownsRow_lit (base := wt.heap.size) (e := 27) (size := 4) (wt.alloc (.cells #[.int .u32 (rk.at_ : Int), .int .i64 rk.len, .int .i64 rk.act, .int .i64 rk.nxt] 27)) #[] 0 (by simp) (by decide) rfl
            rw [World.size_alloc] at this
            exact this
          have nw0 : Hid (Has (wt.alloc (.cells #[.int .u32 (rk.at_ : Int), .int .i64 rk.len, .int .i64 rk.act, .int .i64 rk.nxt] 27)) (some ⟨wt.heap.size, 0, none⟩) (rcells [rk])) := Has.new wt (rcells [rk]) 27 (0, 0)
          have nw1 : Hid (Has ((wt.alloc (.cells #[] 27)).alloc (.cells #[.int .u32 (rk.at_ : Int), .int .i64 rk.len, .int .i64 rk.act, .int .i64 rk.nxt] 27)) (some ⟨wt.heap.size + 1, 0, none⟩) (rcells [rk])) := by
            have := Has.new (wt.alloc (.cells #[] 27)) (rcells [rk]) 27 (0, 0)
            rw [World.size_alloc] at this
            exact this
          obtain ⟨f0, f1, f2, f3⟩ := HFK.out wt (Below.refl _ _)
          go_cut [13] (fun v wx => Hid (IsR wx v (T.take K1 ++ rk :: T.drop K1)) ∧ Hid (Below wt.heap.size wt wx))
          case first =>
            go_region_held3 (fun w' => w'.cell? (ad.add (K * 4)) = some (.int .u32 (rk.at_ : Int)) ∧ w'.cell? ⟨(ad.add (K * 4)).block, (ad.add (K * 4)).off + 1, none⟩ = some (.int .i64 rk.len) ∧ w'.cell? ⟨(ad.add (K * 4)).block, (ad.add (K * 4)).off + 2, none⟩ = some (.int .i64 rk.act) ∧ w'.cell? ⟨(ad.add (K * 4)).block, (ad.add (K * 4)).off + 3, none⟩ = some (.int .i64 rk.nxt))
              (first | go_keep | exact HFK.out _ hb5 | exact HFK.out _ hb4 | exact HFK.out _ hb3 | exact HFK.out _ (hb3.alloc hb3.size _) | exact HFK.out _ (((Below.refl _ _).alloc (Nat.le_refl _) _).drew) | exact HFK.out _ ((((Below.refl _ _).alloc (Nat.le_refl _) _).alloc (by simp) _).drew))
              (first
                | ((refine step_append4 _ (by rfl) (.tmp 93) (.tmp 97) _ (by rfl) wt.heap.size 27 i0 (.agg #[.int .u32 0, .int .i64 0, .int .i64 0, .int .i64 0]) 32 Try.underlying22 hi0 hz0 hz1 hz2 rfl (.slice (some ⟨wt.heap.size, 0, none⟩) 0 0) 0 [] (by rfl) ?_ (some ad) K1 _ (rcells (T.take K1)) (by rfl) HL1.out ?_ (rcells_one _) (by unfold maxLen; omega) (by omega) ?_ ?_
                    · first | exact ol0.out.drew | exact (ol0.out.alloc _).drew | exact ol1.out.drew
                    · first | exact (HA1.out.alloc _).drew | exact ((HA1.out.alloc _).alloc _).drew
                    · first | (simp; done) | (simp; omega) | (have := hgrow3.size; simp at this ⊢; omega)
                    intro v3 y3 hown3 hgrow3 hat3
                    have hb3 : Below wt.heap.size wt y3 := by
                      first
                        | exact ((Below.refl _ _).alloc (Nat.le_refl _) _).drew.grown hgrow3 (by simp) (by intro g hg; simp [Value.ownBlock] at hg; omega)
                        | exact (((Below.refl _ _).alloc (Nat.le_refl _) _).alloc (by simp) _).drew.grown hgrow3 (by simp; omega) (by intro g hg; simp [Value.ownBlock] at hg; omega)))
                | ((refine step_append4 _ (by rfl) (.tmp 93) (.tmp 97) _ (by rfl) wt.heap.size 27 i0 (.agg #[.int .u32 0, .int .i64 0, .int .i64 0, .int .i64 0]) 32 Try.underlying22 hi0 hz0 hz1 hz2 rfl (.slice (some ⟨wt.heap.size + 1, 0, none⟩) 0 0) 0 [] (by rfl) ?_ (some ad) K1 _ (rcells (T.take K1)) (by rfl) HL1.out ?_ (rcells_one _) (by unfold maxLen; omega) (by omega) ?_ ?_
                    · first | exact ol0.out.drew | exact (ol0.out.alloc _).drew | exact ol1.out.drew
                    · first | exact (HA1.out.alloc _).drew | exact ((HA1.out.alloc _).alloc _).drew
                    · first | (simp; done) | (simp; omega) | (have := hgrow3.size; simp at this ⊢; omega)
                    intro v3 y3 hown3 hgrow3 hat3
                    have hb3 : Below wt.heap.size wt y3 := by
                      first
                        | exact ((Below.refl _ _).alloc (Nat.le_refl _) _).drew.grown hgrow3 (by simp) (by intro g hg; simp [Value.ownBlock] at hg; omega)
                        | exact (((Below.refl _ _).alloc (Nat.le_refl _) _).alloc (by simp) _).drew.grown hgrow3 (by simp; omega) (by intro g hg; simp [Value.ownBlock] at hg; omega)))
                | ((refine step_append4 _ (by rfl) (.tmp 98) (.tmp 103) _ (by rfl) wt.heap.size 27 i0 (.agg #[.int .u32 0, .int .i64 0, .int .i64 0, .int .i64 0]) 32 Try.underlying22 hi0 hz0 hz1 hz2 rfl v3 (0 + K1) ([] ++ rcells (T.take K1)) (by rfl) ?_ _ 1 _ (rcells [rk]) (by rfl) rfl ?_ (rcells_one _) (by unfold maxLen; omega) (by omega) ?_ ?_
                    · first | exact hown3 | exact hown3.alloc _
                    · first | exact Has.new y3 (rcells [rk]) _ _ | exact Has.grown nw1.out.drew hgrow3 (by intro a ha hh; injection ha with ha; subst ha; simp [Value.ownBlock] at hh) | exact Has.grown (nw0.out.alloc _).drew hgrow3 (by intro a ha hh; injection ha with ha; subst ha; simp [Value.ownBlock] at hh)
                    · first | (simp; done) | (simp; omega) | (have := hgrow3.size; simp at this ⊢; omega)
                    intro v4 y4 hown4 hgrow4 hat4
                    have hb4 : Below wt.heap.size wt y4 := by
                      first
                        | exact hb3.grown hgrow4 hb3.size (fun g hg => (hown3.lt g hg).1)
                        | exact (hb3.alloc hb3.size _).grown hgrow4 (by have := hb3.size; simp; omega) (fun g hg => (hown3.lt g hg).1)))
                | ((refine step_append4 _ (by rfl) (.tmp 104) (.tmp 108) _ (by rfl) wt.heap.size 27 i0 (.agg #[.int .u32 0, .int .i64 0, .int .i64 0, .int .i64 0]) 32 Try.underlying22 hi0 hz0 hz1 hz2 rfl v4 (0 + K1 + 1) ([] ++ rcells (T.take K1) ++ rcells [rk]) (by rfl) hown4 (cutA (some ad) cT K1 4) (k - K1) _ (rcells (T.drop K1)) (by rfl) HL2.out (HA2.out.bel hb4) (rcells_one _) (by unfold maxLen; omega) (by omega) (by have := hb4.size; omega) ?_
                    intro v5 y5 hown5 hgrow5 hat5
                    have hb5 : Below wt.heap.size wt y5 := hb4.grown hgrow5 hb4.size (fun g hg => (hown4.lt g hg).1))))
            all_goals
              have HO5 : Hid (IsR y5 v5 (T.take K1 ++ rk :: T.drop K1)) := by
                have h := hown5
                rw [List.nil_append, ← rcells_append, ← rcells_append, List.append_assoc] at h
                exact IsR.of_own h
              have HB5 := Lib.hid hb5
              clear hown3 hgrow3 hat3 hown4 hgrow4 hat4 hown5 hgrow5 hat5 hb3 hb4 hb5 ol0 ol1 nw0 nw1
              go_wp2_with fail
              go_meet
              exact ⟨HO5, HB5⟩
          case rest =>
            obtain ⟨VM, HBc⟩ := hcut
            generalize wc = wu at *
            have HB1 := Lib.hid (HB0.out.trans (HBc.out.mono HB0.out.size))
            replace VT := Lib.hid (VT.out.bel HBc.out)
            have HFK2 : Hid (∀ wx, Below wu.heap.size wu wx → wx.cell? (ad.add (K * 4)) = some (.int .u32 (rk.at_ : Int)) ∧ wx.cell? ⟨(ad.add (K * 4)).block, (ad.add (K * 4)).off + 1, none⟩ = some (.int .i64 rk.len) ∧ wx.cell? ⟨(ad.add (K * 4)).block, (ad.add (K * 4)).off + 2, none⟩ = some (.int .i64 rk.act) ∧ wx.cell? ⟨(ad.add (K * 4)).block, (ad.add (K * 4)).off + 3, none⟩ = some (.int .i64 rk.nxt)) := fun wx hx => HFK.out wx (HBc.out.trans (hx.mono HBc.out.size))
            have HFJ2 : Hid (∀ wx, Below wu.heap.size wu wx → wx.cell? (ad.add (K1 * 4)) = some (.int .u32 (rj.at_ : Int)) ∧ wx.cell? ⟨(ad.add (K1 * 4)).block, (ad.add (K1 * 4)).off + 1, none⟩ = some (.int .i64 rj.len) ∧ wx.cell? ⟨(ad.add (K1 * 4)).block, (ad.add (K1 * 4)).off + 2, none⟩ = some (.int .i64 rj.act) ∧ wx.cell? ⟨(ad.add (K1 * 4)).block, (ad.add (K1 * 4)).off + 3, none⟩ = some (.int .i64 rj.nxt)) := fun wx hx => HFJ.out wx (HBc.out.trans (hx.mono HBc.out.size))
            clear HFK HFJ HA1 HA2 HL1 HL2 ol0 ol1 nw0 nw1 f0 f1 f2 f3 HBc HB0
            have ol : Hid ((wu.alloc (.cells #[] 27)).ownsRow wu.heap.size 27 4 (.slice (some ⟨wu.heap.size, 0, none⟩) 0 0) 0 []) := World.ownsRow_lit (e := 27) (size := 4) wu #[] 0 (Nat.le_refl _) (by decide) rfl
            have HTH : Hid (Has (wu.alloc (.cells #[] 27)) (some ad) (rcells T)) := VT.out.isr.has'.alloc _
            have HTL : Hid ((rcells T).length = k * 4) := by show _ = _; rw [rcells_length, HNT.out]
            go_upto_region 21 with (first
              | (at_builtin; refine wpList_append4 _ rfl (.tmp 110) (.tmp 111) _ rfl wu.heap.size 27 i0 (.agg #[.int .u32 0, .int .i64 0, .int .i64 0, .int .i64 0]) 32 Try.underlying22 hi0 hz0 hz1 hz2 rfl _ 0 [] rfl ol.out _ k _ (rcells T) rfl HTL.out HTH.out (rcells_one _) (by unfold maxLen; omega) (by omega) (by simp only [World.size_alloc]; omega) ?_; intro v4 y4 hown4 hgrow4 _; have HO4 := Lib.hid hown4; have HG4 := Lib.hid hgrow4; clear hown4 hgrow4))
            have HB4 : Hid (Below wu.heap.size wu y4) := ((Below.refl wu.heap.size wu).alloc (Nat.le_refl _) (.cells #[] 27)).grown HG4.out (by simp only [World.size_alloc]; omega) (fun q hq => (ol.out.lt q hq).1)
            have hown := HO4.out
            rw [List.nil_append, Nat.zero_add] at hown
            rcases hown.2 with ⟨_, h0⟩ | ⟨G, cap, cur, rfl, hGb, _, hkcap, _, _, _⟩
            · omega
            have HO := Lib.hid hown
            have hkc2 : (k : Int) ≤ (cap : Int) := by omega
            clear hown HO4 HG4 ol HTH HTL hkcap
            obtain ⟨f0, f1, f2, f3⟩ := HFJ2.out y4 HB4.out
            have HTR := Lib.hid (own_there HO.out K hKl)
            have HPK : Hid ((⟨G, 0, none⟩ : Addr).add (K * 4) = ⟨G, K * 4, none⟩) := by show _ = _; rw [add_plain, Nat.zero_add]
            have HPJ : Hid ((⟨G, 0, none⟩ : Addr).add (K1 * 4) = ⟨G, K1 * 4, none⟩) := by show _ = _; rw [add_plain, Nat.zero_add]
            go_upto_region 22 with (first
              | (refine wpList_store_mid rfl 27 (.tmp 120) (.tmp 119) rfl G (K * 4) #[.int .u32 (rj.at_ : Int), .int .i64 rj.len, .int .i64 rj.act, .int .i64 rj.nxt] (by first | rfl | exact congrArg (fun x => Value.pointer (some x)) HPK.out) rfl HTR.out rfl (by simp [Value.oneCell']) ?_))
            have HO2 : Hid ((y4.setCells G (K * 4) (rcell rj)).ownsRow wu.heap.size 27 4 (.slice (some ⟨G, 0, none⟩) k cap) k (rcells (T.set K rj))) := own_set HO.out K rj hKl
            have HB5 : Hid (Below wu.heap.size wu (y4.setCells G (K * 4) (rcell rj))) := below_rule HB4.out hGb K rj
            clear f0 f1 f2 f3 HTR HO HB4
            obtain ⟨y5, hy⟩ : ∃ y, y4.setCells G (K * 4) (rcell rj) = y := ⟨_, rfl⟩
            rw [hy] at HO2 HB5
            first
              | rw [show y4.setCells G (K * 4) [.int .u32 (rj.at_ : Int), .int .i64 rj.len, .int .i64 rj.act, .int .i64 rj.nxt] = y5 from hy]
              | rw [show y4.setCells G (K * 4) (#[.int .u32 (rj.at_ : Int), .int .i64 rj.len, .int .i64 rj.act, .int .i64 rj.nxt] : Array Value).toList = y5 from hy]
            clear hy
            obtain ⟨f0, f1, f2, f3⟩ := HFK2.out y5 HB5.out
            have HTR := Lib.hid (own_there HO2.out K1 (by rw [List.length_set]; exact hKl1))
            go_upto_region 23 with (first
              | (refine wpList_store_mid rfl 27 (.tmp 128) (.tmp 127) rfl G (K1 * 4) #[.int .u32 (rk.at_ : Int), .int .i64 rk.len, .int .i64 rk.act, .int .i64 rk.nxt] (by first | rfl | exact congrArg (fun x => Value.pointer (some x)) HPJ.out) rfl HTR.out rfl (by simp [Value.oneCell']) ?_))
            have HO3 : Hid ((y5.setCells G (K1 * 4) (rcell rk)).ownsRow wu.heap.size 27 4 (.slice (some ⟨G, 0, none⟩) k cap) k (rcells ((T.set K rj).set K1 rk))) := own_set HO2.out K1 rk (by rw [List.length_set]; exact hKl1)
            have HB6 : Hid (Below wu.heap.size wu (y5.setCells G (K1 * 4) (rcell rk))) := below_rule HB5.out hGb K1 rk
            clear f0 f1 f2 f3 HTR HO2 HB5
            obtain ⟨y6, hy⟩ : ∃ y, y5.setCells G (K1 * 4) (rcell rk) = y := ⟨_, rfl⟩
            rw [hy] at HO3 HB6
            first
              | rw [show y5.setCells G (K1 * 4) [.int .u32 (rk.at_ : Int), .int .i64 rk.len, .int .i64 rk.act, .int .i64 rk.nxt] = y6 from hy]
              | rw [show y5.setCells G (K1 * 4) (#[.int .u32 (rk.at_ : Int), .int .i64 rk.len, .int .i64 rk.act, .int .i64 rk.nxt] : Array Value).toList = y6 from hy]
            clear hy
            have HB7 := Lib.hid (HB1.out.trans (HB6.out.mono HB1.out.size))
            replace VM := Lib.hid (VM.out.bel HB6.out)
            have VX : Hid (IsR y6 (.slice (some ⟨G, 0, none⟩) k cap) ((T.set K rj).set K1 rk)) := IsR.of_own HO3.out
            clear HB1 HB6 HO3 HFK2 HFJ2 HPK HPJ VT
            go_wp2_with fail
            refine (FW.out _ y6 VM.out).mono ?_
            rintro e1 w8 ⟨rfl, hb⟩
            have HB8 := Lib.hid (HB7.out.trans (hb.mono HB7.out.size))
            replace VX := Lib.hid (VX.out.bel hb)
            clear hb HB7 VM
            go_wp2_with fail
            refine (FX.out _ w8 VX.out).mono ?_
            rintro e1 w9 ⟨rfl, hb⟩
            have HB9 := Lib.hid (HB8.out.trans (hb.mono HB8.out.size))
            clear hb HB8
            go_wp2_with fail
            go_ret
            exact ⟨rfl, HB9.out⟩
end Go.Proofs.Ytenkpoppbjgclaa
