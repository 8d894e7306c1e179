/- Contract of network.leastBack: the least node that comes back. -/
import Derived.Test.YtpfpkghihpcbkaaNetA
import Derived.Test.YtpfpkghihpcbkaaNetMin
namespace Go.Proofs.Ytpfpkghihpcbkaa
open Go.RowKit
set_option linter.unusedVariables false
set_option linter.unusedSimpArgs false
attribute [local go_sem] Oper.semAt_some wide_depth wide_fn

/-- numbers in cells -/
def nats (L : List Nat) : Array Value := (L.map fun (x : Nat) => Value.int .i64 (x : Int)).toArray
theorem nats_at {L : List Nat} {x : Nat} (h : x < L.length) : (nats L)[x]? = some (.int .i64 (mkd L x : Int)) := by
  rw [mkd_at h]
  simp [nats, h]
theorem nats_set (L : List Nat) (x m : Nat) : (nats L).setIfInBounds x (.int .i64 (m : Int)) = nats (L.set x m) := by simp [nats, List.map_set]

/-- what the call's own blocks hold -/
structure LB (g n c : Nat) (A : Option Addr) (a : Nat) (w : World) (L : List Nat) (o : Option Int) (W : World) : Prop where
  b0 : Blk g #[.slice A n c] 24 W
  b1 : Blk (g + 1) #[.int .u32 (a : Int)] 25 W
  b2 : Blk (g + 1 + 1) #[.int .i64 (o.getD 0)] 3 W
  b3 : Blk (g + 1 + 1 + 1) #[.bool o.isSome] 4 W
  b4 : Blk (g + 1 + 1 + 1 + 1) (nats L) 3 W
  b5 : Blk (g + 1 + 1 + 1 + 1 + 1) #[.slice (some ⟨g + 1 + 1 + 1 + 1, 0, none⟩) n n] 29 W
  bw : Below g w W
section
variable {g n c a : Nat} {A : Option Addr} {w W V : World} {L : List Nat} {o : Option Int}
theorem LB.bel (h : LB g n c A a w L o W) (hb : Below W.heap.size W V) : LB g n c A a w L o V :=
  ⟨h.b0.bel hb, h.b1.bel hb, h.b2.bel hb, h.b3.bel hb, h.b4.bel hb, h.b5.bel hb, h.bw.trans (hb.mono (by have := h.b0.size; omega))⟩
theorem LB.stp {b : Nat} (h : LB g n c A a w L o W) (s : Stp b W V) (hg : w.heap.size = g) (hb : g ≤ b) : LB g n c A a w L o V :=
  ⟨h.b0.stp s, h.b1.stp s, h.b2.stp s, h.b3.stp s, h.b4.stp s, h.b5.stp s, below_stp h.bw s (by omega) hb⟩
theorem LB.mark (h : LB g n c A a w L o W) (x m : Nat) : LB g n c A a w (L.set x m) o (W.setCell ⟨g + 1 + 1 + 1 + 1, x, none⟩ (.int .i64 (m : Int))) :=
  ⟨h.b0.far _ _ _ (by omega), h.b1.far _ _ _ (by omega), h.b2.far _ _ _ (by omega), h.b3.far _ _ _ (by omega), h.b4.set x _ (nats_set L x m), h.b5.far _ _ _ (by omega), h.bw.setCell (p := ⟨g + 1 + 1 + 1 + 1, x, none⟩) (by show g ≤ g + 1 + 1 + 1 + 1; omega) _⟩
theorem LB.found (h : LB g n c A a w L o W) (m : Int) : LB g n c A a w L (some m) ((W.setCell ⟨g + 1 + 1, 0, none⟩ (.int .i64 m)).setCell ⟨g + 1 + 1 + 1, 0, none⟩ (.bool true)) := by
  obtain ⟨a1, a2, a3, _, a5, _⟩ := set_two h.b2 h.b3 (by omega) (.int .i64 m) (.bool true)
  exact ⟨a3 _ _ _ (by omega) (by omega) h.b0, a3 _ _ _ (by omega) (by omega) h.b1, a1, a2, a3 _ _ _ (by omega) (by omega) h.b4, a3 _ _ _ (by omega) (by omega) h.b5, h.bw.trans (a5 g (by omega) (by omega))⟩
end
/-- the blocks for deferred calls of the loops that are over -/
structure Mks (ds : List Nat) (lo : Nat) (W : World) : Prop where
  one : ds.Nodup
  lows : ∀ D ∈ ds, lo ≤ D
  are : ∀ D ∈ ds, W.heap[D]? = some (.deferred (some []))
theorem Mks.keep {ds : List Nat} {lo : Nat} {W V : World} (h : Mks ds lo W) (k : KeepsOthers W V) : Mks ds lo V := ⟨h.one, h.lows, fun D hD => k.same D _ (h.are D hD) rfl⟩
theorem Mks.bel {ds : List Nat} {lo : Nat} {W V : World} (h : Mks ds lo W) (hb : Below W.heap.size W V) : Mks ds lo V := ⟨h.one, h.lows, fun D hD => (hb.block D (Array.getElem?_eq_some_iff.1 (h.are D hD)).1).trans (h.are D hD)⟩
theorem Mks.stp {ds : List Nat} {lo b : Nat} {W V : World} (h : Mks ds lo W) (s : Stp b W V) (hb : ∀ D ∈ ds, D < b) : Mks ds lo V := ⟨h.one, h.lows, fun D hD => (s.block D (Array.getElem?_eq_some_iff.1 (h.are D hD)).1 (hb D hD)).trans (h.are D hD)⟩
theorem Mks.lt {ds : List Nat} {lo : Nat} {W : World} (h : Mks ds lo W) : ∀ D ∈ ds, D < W.heap.size := fun D hD => (Array.getElem?_eq_some_iff.1 (h.are D hD)).1
theorem Mks.more {ds : List Nat} {lo D : Nat} {W : World} (h : Mks ds lo W) (hD : W.heap[D]? = some (.deferred (some []))) (hl : lo ≤ D) (hn : D ∉ ds) : Mks (D :: ds) lo W :=
  ⟨List.nodup_cons.2 ⟨hn, h.one⟩, fun E hE => by
    rcases List.mem_cons.1 hE with rfl | hE
    · exact hl
    · exact h.lows E hE, fun E hE => by
    rcases List.mem_cons.1 hE with rfl | hE
    · exact hD
    · exact h.are E hE⟩
theorem Mks.none_ (lo : Nat) (W : World) : Mks [] lo W := ⟨List.nodup_nil, fun D hD => absurd hD List.not_mem_nil, fun D hD => absurd hD List.not_mem_nil⟩
theorem LB.start {g n c a : Nat} {A : Option Addr} {w w1 : World} (k1 : Blk g #[.slice A n c] 24 w1) (k2 : Blk (g + 1) #[.int .u32 (a : Int)] 25 w1) (k3 : Blk (g + 1 + 1) #[.int .i64 0] 3 w1) (k4 : Blk (g + 1 + 1 + 1) #[.bool false] 4 w1) (hb : Below g w w1) (hz : w1.heap.size = g + 1 + 1 + 1 + 1) (L : List Nat) :
    LB g n c A a w L none ((w1.alloc (.cells (nats L) 3)).alloc (.cells #[.slice (some ⟨g + 1 + 1 + 1 + 1, 0, none⟩) n n] 29)) := by
  have e1 : Below w1.heap.size w1 (w1.alloc (.cells (nats L) 3)) := (Below.refl _ _).alloc (Nat.le_refl _) _
  have e2 : Below (w1.alloc (.cells (nats L) 3)).heap.size (w1.alloc (.cells (nats L) 3)) ((w1.alloc (.cells (nats L) 3)).alloc (.cells #[.slice (some ⟨g + 1 + 1 + 1 + 1, 0, none⟩) n n] 29)) := (Below.refl _ _).alloc (Nat.le_refl _) _
  have n4 := Blk.new w1 (nats L) 3
  rw [hz] at n4
  have n5 := Blk.new (w1.alloc (.cells (nats L) 3)) #[.slice (some ⟨g + 1 + 1 + 1 + 1, 0, none⟩) n n] 29
  rw [World.size_alloc, hz] at n5
  exact ⟨(k1.bel e1).bel e2, (k2.bel e1).bel e2, (k3.bel e1).bel e2, (k4.bel e1).bel e2, n4.bel e2, n5, (hb.trans (e1.mono (by omega))).trans (e2.mono (by rw [World.size_alloc]; omega))⟩

set_option maxRecDepth 100000 in
set_option maxHeartbeats 4000000 in
theorem nleast_any (v : Value) (N : Nt) (a : Nat) (w : World) (hv : IsN w v N) (ha : (a : Int) ≤ 4294967295) (hwf : WfN N) (hB : N.length ≤ 1000) :
    Calls Try.prog 25 #[v, .int .u32 (a : Int)] w fun e w' => ∃ o L, Scan N a N.length L o ∧ e = .returned (.tuple #[.int .i64 (o.getD 0), .bool o.isSome]) ∧ Below w.heap.size w w' := by
  obtain ⟨A, c, rfl, hc, hm, hS⟩ := hv.slice
  obtain ⟨n, hn⟩ : ∃ n, N.length = n := ⟨_, rfl⟩
  rw [hn] at hc hS hB ⊢
  have HN := Lib.hid hn
  have HS := Lib.hid hS
  have hnm : (n : Int) ≤ 1000 := by omega
  have hnz : (0 : Int) ≤ n := by omega
  obtain ⟨g, hg⟩ : ∃ g, w.heap.size = g := ⟨_, rfl⟩
  have HG := Lib.hid hg
  obtain ⟨w1, hw1, k1, k2, k3, k4, hb1, hz1⟩ := boxes4 w #[.slice A n c] #[.int .u32 (a : Int)] #[.int .i64 0] #[.bool false] 24 25 3 4 hg
  have HB1 := Lib.hid hb1
  have K1 := Lib.hid k1
  have K2 := Lib.hid k2
  have K3 := Lib.hid k3
  have K4 := Lib.hid k4
  have HZ1 := Lib.hid hz1
  have q1 := k1.cell 0 rfl
  have HM0 : Hid (Scan N a 0 (List.replicate n 0) none) := by
    have h := Scan.start N a
    rw [HN.out] at h
    exact h
  obtain ⟨i0, hi0, hz0, hz1', hz2⟩ := info_parts int_info
  have HMK0 : (Instr.makeSlice 29 (.int .i64 (n : Int)) (.int .i64 (n : Int))).run Try.prog w1 = .ok (.slice (some ⟨g + 1 + 1 + 1 + 1, 0, none⟩) n n) (w1.alloc (.cells (nats (List.replicate n 0)) 3)) := by
    have := run_make (P := Try.prog) w1 29 3 i0 (.int .i64 0) Try.underlying29 hi0 hz0 .i64 .i64 n n (by omega) (by omega) (by rw [hz2]; omega) (by omega)
    rw [this, hz1', hz1]
    have e : madeCells (Value.cells (.int .i64 0)) ((n : Int).toNat * 1) = nats (List.replicate n 0) := by
      apply Array.toList_inj.1
      rw [show Value.cells (.int .i64 0) = #[.int .i64 0] from rfl, toList_madeCells_one]
      simp [nats]
    rw [e, Int.toNat_natCast]
  clear hv hS hn hc hm k1 k2 k3 k4 hb1 hi0 hz0 hz1' hz2
  refine (callsIn_wide (n := 9)).1 ?_
  refine callsIn_of_wp_marks Try.func25 rfl trivial ?_
  simp only [Try.ntmps25, List.size_toArray, List.length_cons, List.length_nil, Nat.reduceAdd, Nat.reduceSub, Array.replicate_succ, Array.replicate_zero, List.push_toArray, List.append_toArray, List.nil_append, List.cons_append]
  gi_upto_region 2 with fail
  clear hw1 hg hz1 HMK0 q1
  have HL0 : Hid (LB g n c A a w (List.replicate n 0) none ((w1.alloc (.cells (nats (List.replicate n 0)) 3)).alloc (.cells #[.slice (some ⟨g + 1 + 1 + 1 + 1, 0, none⟩) n n] 29))) := LB.start K1.out K2.out K3.out K4.out HB1.out HZ1.out _
  clear HB1 K1 K2 K3 K4 HZ1
  generalize (w1.alloc (.cells (nats (List.replicate n 0)) 3)).alloc (.cells #[.slice (some ⟨g + 1 + 1 + 1 + 1, 0, none⟩) n n] 29) = w2 at *
  have q1 := HL0.out.b0.cell 0 rfl
  gi_wp2
  clear q1
  refine wpIn_loop (fun x wr => ∃ (s : Nat) (L : List Nat) (o : Option Int) (ds : List Nat) (u7 u8 u9 u10 u19 u20 u21 u22 u23 u24 u25 u26 u27 u28 u29 u30 u31 u32 u33 u34 u35 u36 u37 u38 u39 u40 u41 u42 u43 u44 u45 u46 u47 u48 u49 u50 u51 u52 u53 u54 u55 u56 u57 u58 u59 u60 : Value), x = { tmps := #[.agg #[.slice A n c], .int .u32 (a : Int), .pointer (some ⟨g, 0, none⟩), .pointer (some ⟨g + 1, 0, none⟩), .pointer (some ⟨g + 1 + 1, 0, none⟩), .pointer (some ⟨g + 1 + 1 + 1, 0, none⟩), .pointer (some ⟨g + 1 + 1 + 1 + 1 + 1, 0, none⟩), u7, u8, u9, u10, .pointer (some ⟨g, 0, none⟩), .slice A n c, .int .i64 (n : Int), .slice (some ⟨g + 1 + 1 + 1 + 1, 0, none⟩) n n, .pointer (some ⟨g, 0, none⟩), .slice A n c, .int .i64 (n : Int), .int .i64 (s : Int), u19, u20, u21, u22, u23, u24, u25, u26, u27, u28, u29, u30, u31, u32, u33, u34, u35, u36, u37, u38, u39, u40, u41, u42, u43, u44, u45, u46, u47, u48, u49, u50, u51, u52, u53, u54, u55, u56, u57, u58, u59, u60, undef, undef], defers := ds.map mark } ∧ s ≤ n ∧ Hid (Scan N a s L o) ∧ Hid (LB g n c A a w L o wr) ∧ Hid (Mks ds (g + 1) wr)) (fun x _ => n - (intOf (x.tmps.getD 18 undef)).toNat) ⟨0, _, none, [], undef, undef, undef, undef, undef, undef, undef, undef, undef, undef, undef, undef, undef, undef, undef, undef, undef, undef, undef, undef, undef, undef, undef, undef, undef, undef, undef, undef, undef, undef, undef, undef, undef, undef, undef, undef, undef, undef, undef, undef, undef, undef, undef, undef, undef, undef, rfl, by omega, HM0, HL0, Mks.none_ _ _⟩ ?_
  rintro x wr ⟨s, L, o, ds, u7, u8, u9, u10, u19, u20, u21, u22, u23, u24, u25, u26, u27, u28, u29, u30, u31, u32, u33, u34, u35, u36, u37, u38, u39, u40, u41, u42, u43, u44, u45, u46, u47, u48, u49, u50, u51, u52, u53, u54, u55, u56, u57, u58, u59, u60, rfl, hs, HSC, HLB, HMK⟩
  clear HL0 HM0
  dsimp only
  have q0 := HLB.out.b0.cell 0 rfl
  have q1 := HLB.out.b1.cell 0 rfl
  have q2 := HLB.out.b2.cell 0 rfl
  have q3 := HLB.out.b3.cell 0 rfl
  have q5 := HLB.out.b5.cell 0 rfl
  have f2 := HLB.out.b2.froz 0
  have f3 := HLB.out.b3.froz 0
  by_cases hlt : s < n
  · have hsn : (s : Int) < (n : Int) := by omega
    have hs1 : (s : Int) ≤ 1000 := by omega
    have hs0 : (0 : Int) ≤ (s : Int) := by omega
    obtain ⟨b, hb⟩ : ∃ b, wr.heap.size = b := ⟨_, rfl⟩
    gi_upto_region 6 with fail
    clear q0 q1 q2 q3 q5 f2 f3
    have HBW := Lib.hid hb
    have HKW : Hid (Blk b #[.int .i64 ((s : Int) + 1)] 3 (wr.alloc (.cells #[.int .i64 ((s : Int) + 1)] 3))) := by rw [← hb]; exact Blk.new wr _ _
    have HLB1 : Hid (LB g n c A a w L o (wr.alloc (.cells #[.int .i64 ((s : Int) + 1)] 3))) := HLB.out.bel ((Below.refl _ _).alloc (Nat.le_refl _) _)
    have HMK1 : Hid (Mks ds (g + 1) (wr.alloc (.cells #[.int .i64 ((s : Int) + 1)] 3))) := HMK.out.bel ((Below.refl _ _).alloc (Nat.le_refl _) _)
    obtain ⟨h, hh⟩ : ∃ h, (wr.alloc (.cells #[.int .i64 ((s : Int) + 1)] 3)).heap.size = h := ⟨_, rfl⟩
    have HH := Lib.hid hh
    have HBH : Hid (b + 1 = h) := by show _ = _; rw [← hh, World.size_alloc, hb]
    have HGB : Hid (g + 6 ≤ b) := by
      have h5 := HLB.out.b5.size
      show _ ≤ _
      omega
    have HDS : Hid (∀ D ∈ ds, D < b) := by rw [← hb]; exact HMK.out.lt
    clear hb hh HLB HMK
    generalize wr.alloc (.cells #[.int .i64 ((s : Int) + 1)] 3) = w3 at *
    have q0 := HLB1.out.b0.cell 0 rfl
    have q1 := HLB1.out.b1.cell 0 rfl
    gi_wp2
    refine (npassed_at A n c a s w3 HH.out).mono ?_
    rintro e4 w4 ⟨rfl, p1, p2, p3, hb4, hz4⟩
    have P1 := Lib.hid p1
    have P2 := Lib.hid p2
    have P3 := Lib.hid p3
    have HZ4 := Lib.hid hz4
    have hb2 : Below w3.heap.size w3 w4 := by rw [HH.out]; exact hb4
    have HLB4 := Lib.hid (HLB1.out.bel hb2)
    have HMK4 := Lib.hid (HMK1.out.bel hb2)
    have HKW4 := Lib.hid (HKW.out.bel hb2)
    clear p1 p2 p3 hz4 hb2 HLB1 HMK1 HKW hb4 HH q0 q1
    gi_wp2
    refine wpIn_counted (F := Fence.wide) (a₁ := ?a1) rfl (by omega) (gf := 40) (lb := #[.pointer (some ⟨h + 1 + 1, 0, none⟩), .pointer (some ⟨h, 0, none⟩), .pointer (some ⟨h + 1, 0, none⟩)]) rfl trivial (enters_of Try.func40 (by kernel_rfl) rfl)
      (seq_gives (h + 1 + 1) h (h + 1) A n c N a s n _ ha hwf) rfl
      (fun k W => ∃ L', Inner N a s L L' k ∧ LB g n c A a w L' o W ∧ Mks ds (g + 1) W ∧ Blk b #[.int .i64 ((s : Int) + 1)] 3 W ∧ Blk h #[.slice A n c] 24 W ∧ Blk (h + 1) #[.int .u32 (a : Int)] 25 W ∧ Blk (h + 1 + 1) #[.int .i64 (s : Int)] 3 W)
      (fun z W => z = .exit 2 ∧ ∃ L' o', Scan N a (s + 1) L' o' ∧ LB g n c A a w L' o' W ∧ Mks ds (g + 1) W)
      ?own ?ownx ?reads ⟨L, Inner.start HSC.out.len, HLB4.out, HMK4.out, HKW4.out, P1.out, P2.out, P3.out⟩ ?assign ?body ?done ?stop
    case own =>
      refine own_of_stp ?_
      rintro k X Y ⟨L', i0, i1, i2, i3, i4, i5, i6⟩ st
      have h1 := HBH.out
      have h2 := HGB.out
      have h3 := HZ4.out
      exact ⟨L', i0, i1.stp st HG.out (by omega), i2.stp st (fun D hD => by have := HDS.out D hD; omega), i3.stp st, i4.stp st, i5.stp st, i6.stp st⟩
    case ownx =>
      refine own_of_stp ?_
      rintro z X Y ⟨rfl, L', o', i0, i1, i2⟩ st
      have h1 := HBH.out
      have h2 := HGB.out
      have h3 := HZ4.out
      exact ⟨rfl, L', o', i0, i1.stp st HG.out (by omega), i2.stp st (fun D hD => by have := HDS.out D hD; omega)⟩
    case reads =>
      rintro k X ⟨L', i0, i1, i2, i3, i4, i5, i6⟩
      exact ⟨by have := i0.few; rw [HN.out] at this; exact this, reads_of HS.out (by rw [HG.out]; exact i1.bw) i4 i5 i6⟩
    case assign =>
      intro l x W K hK
      gi_wp2
      exact hK
    case body =>
      rintro l k x W ⟨L', i0, i1, i2, i3, i4, i5, i6⟩ hx
      have HX := Lib.hid hx
      have I0 := Lib.hid i0
      have I1 := Lib.hid i1
      have I2 := Lib.hid i2
      have I3 := Lib.hid i3
      have I4 := Lib.hid i4
      have I5 := Lib.hid i5
      have I6 := Lib.hid i6
      have q0 := i1.b0.cell 0 rfl
      have CT := Lib.hid (CallsIn.inRound l (callsIn_wide (n := 6).2 (nthere_any (.agg #[.slice A n c]) N x W (HS.out.bel (by rw [HG.out]; exact i1.bw)).mk)))
      clear i0 i1 i2 i3 i4 i5 i6 hx
      gi_wp2
      refine CT.out.mono ?_
      rintro e5 w5 ⟨rfl, hb5⟩
      have J1 := Lib.hid (I1.out.bel hb5)
      have J2 := Lib.hid (I2.out.bel hb5)
      have J3 := Lib.hid (I3.out.bel hb5)
      have J4 := Lib.hid (I4.out.bel hb5)
      have J5 := Lib.hid (I5.out.bel hb5)
      have J6 := Lib.hid (I6.out.bel hb5)
      have JK : Hid (KeepsFrom w4.heap.size W w5) := (KeepsOthers.of_grownBy (grown_of_below hb5) (fun j o ej => by cases ej)).from _
      have q0 := J1.out.b0.cell 0 rfl
      have q1 := J1.out.b1.cell 0 rfl
      have q2 := J1.out.b2.cell 0 rfl
      have q3 := J1.out.b3.cell 0 rfl
      have q5 := J1.out.b5.cell 0 rfl
      have q6 := J3.out.cell 0 rfl
      have f2 := J1.out.b2.froz 0
      have f3 := J1.out.b3.froz 0
      clear hb5 I1 I2 I3 I4 I5 I6 CT
      by_cases hin : 0 ≤ x ∧ x < n
      · obtain ⟨y, rfl⟩ := Int.eq_ofNat_of_zero_le hin.1
        have hyn : y < n := by omega
        have ht : thN N (y : Int) = true := by
          unfold thN
          rw [HN.out, decide_eq_true hin.1, decide_eq_true hin.2]
          rfl
        have hyl : y < L'.length := by rw [I0.out.len, HN.out]; exact hyn
        have q4 := J1.out.b4.cell y (nats_at hyl)
        have f4 := J1.out.b4.froz y
        have hyz : (0 : Int) ≤ (y : Int) := hin.1
        have hyi : (y : Int) < (n : Int) := hin.2
        obtain ⟨m, hm⟩ : ∃ m, mkd L' y = m := ⟨_, rfl⟩
        rw [hm] at q4
        have HMY := Lib.hid hm
        rw [ht]
        clear hin ht hm
        by_cases hm0 : m = 0
        · subst hm0
          gi_wp2
          have g1 := HGB.out
          have g2 := HBH.out
          have hl := J1.out.mark y (s + 1)
          rw [show (((s + 1 : Nat)) : Int) = (s : Int) + 1 from rfl] at hl
          have hko : KeepsOthers w5 (w5.setCell ⟨g + 1 + 1 + 1 + 1, y, none⟩ (.int .i64 ((s : Int) + 1))) := KeepsOthers.setCell _ _ _
          exact ⟨JK.out.trans (hko.from _), L'.set y (s + 1), I0.out.step HX.out (by rw [HN.out]; exact hyn) HMY.out, hl, J2.out.keep hko, J3.out.far _ _ _ (by omega), J4.out.far _ _ _ (by omega), J5.out.far _ _ _ (by omega), J6.out.far _ _ _ (by omega)⟩
        · have t5 : ((m : Int) == 0) = false := by rw [beq_eq_false_iff_ne]; omega
          have hmix : Try.prog.follows .mixedOrders = true := by kernel_rfl
          gi_upto_region 11 with fail
          gi_cut [46] from 61 (fun x wx => x = .bool ((m : Int) == (s : Int) + 1) ∧ wx = w5.drew)
          case first =>
            gi_region_with_o (fail)
            all_goals
              gi_wp2
              gi_meet
              exact ⟨rfl, rfl⟩
          case rest =>
            obtain ⟨rfl, rfl⟩ := hcut
            have HK0 : Hid (mkd L' s ≠ 0) := by
              show _ ≠ _
              rcases Nat.eq_zero_or_pos k with hk | hk
              · subst hk
                have h := HX.out
                injection h with h
                have e : y = s := by omega
                rw [← e, HMY.out]
                exact hm0
              · obtain ⟨z, z1, z2, _, z4⟩ := I0.out.pass 0 hk
                have z5 : z = s := by
                  injection z1 with z1
                  omega
                rw [← z5, z4]
                omega
            have hbd : Below w5.heap.size w5 w5.drew := (Below.refl _ _).drew
            have JK6 : Hid (KeepsFrom w4.heap.size W w5.drew) := JK.out.trans ((KeepsOthers.of_grownBy (grown_of_below hbd) (fun j o ej => by cases ej)).from _)
            have L1 := Lib.hid (J1.out.bel hbd)
            have L2 := Lib.hid (J2.out.bel hbd)
            clear J1 J2 J3 J4 J5 J6 JK q0 q1 q2 q3 q5 q6 f2 f3 q4 f4 hbd t5
            generalize w5.drew = w6 at *
            have q0 := L1.out.b0.cell 0 rfl
            have q1 := L1.out.b1.cell 0 rfl
            by_cases hms : m = s + 1
            · have t6 : ((m : Int) == (s : Int) + 1) = true := by rw [beq_iff_eq]; omega
              obtain ⟨K, hK, hF⟩ := Inner.loop (HSC.out.low) I0.out HX.out (HMY.out.trans hms)
              have HF := Lib.hid hF
              have HQ := Lib.hid (HSC.out.looped I0.out HK0.out HX.out (HMY.out.trans hms) hF hK)
              have hK1 : K ≤ 1000 := by rw [HN.out] at hK; omega
              have CA := Lib.hid (CallsIn.inRound l (callsIn_wide (n := 6).2 (naround_any (.agg #[.slice A n c]) N a y K w6 (HS.out.bel (by rw [HG.out]; exact L1.out.bw)).mk ha hwf hF hK1)))
              clear hF hK hms
              gi_wp2
              refine CA.out.mono ?_
              rintro e7 w7 ⟨z, rfl, hz, hb7⟩
              have JK7 : Hid (KeepsFrom w4.heap.size W w7) := JK6.out.trans ((KeepsOthers.of_grownBy (grown_of_below hb7) (fun j o ej => by cases ej)).from _)
              have M1 := Lib.hid (L1.out.bel hb7)
              have M2 := Lib.hid (L2.out.bel hb7)
              have CM := Lib.hid (CallsIn.inRound l (callsIn_wide (n := 6).2 (nmin_any z (path N a y K) w7 hz (by rw [path_len]; exact HF.out.1))))
              obtain ⟨lo, hlo⟩ : ∃ lo, minL (path N a y K) = lo := ⟨_, rfl⟩
              rw [hlo] at HQ CM
              clear hb7 hz L1 L2 CA JK6 q0 q1 hlo
              gi_wp2
              refine CM.out.mono ?_
              rintro e8 w8 ⟨rfl, rfl⟩
              have q2 := M1.out.b2.cell 0 rfl
              have q3 := M1.out.b3.cell 0 rfl
              have f2 := M1.out.b2.froz 0
              have f3 := M1.out.b3.froz 0
              have M3 := Lib.hid (M1.out.found lo)
              obtain ⟨_, _, _, k4, _, _⟩ := set_two M1.out.b2 M1.out.b3 (by omega) (.int .i64 lo) (.bool true)
              have M4 := Lib.hid k4
              clear CM k4
              cases o with
              | none =>
                gi_wp2
                exact ⟨JK7.out.trans (M4.out.from _), rfl, L', _, HQ.out, M3.out, M2.out.keep M4.out⟩
              | some x0 =>
                by_cases hlo : lo < x0
                · have t7 : decide (lo < x0) = true := decide_eq_true hlo
                  have HQ2 : Hid (Scan N a (s + 1) L' (some lo)) := by
                    have h := HQ.out
                    simp only [lessO, hlo, ↓reduceIte] at h
                    exact h
                  clear HQ
                  gi_wp2
                  exact ⟨JK7.out.trans (M4.out.from _), rfl, L', _, HQ2.out, M3.out, M2.out.keep M4.out⟩
                · have t7 : decide (lo < x0) = false := decide_eq_false hlo
                  have HQ2 : Hid (Scan N a (s + 1) L' (some x0)) := by
                    have h := HQ.out
                    simp only [lessO, hlo, ↓reduceIte] at h
                    exact h
                  clear HQ
                  gi_wp2
                  exact ⟨JK7.out, rfl, L', _, HQ2.out, M1.out, M2.out⟩
            · have t6 : ((m : Int) == (s : Int) + 1) = false := by rw [beq_eq_false_iff_ne]; omega
              have HQ : Hid (Scan N a (s + 1) L' o) := by
                refine HSC.out.plain I0.out HK0.out (.inr (.inr ⟨y, HX.out, ?_⟩))
                rcases I0.out.either y with ⟨j, hj, e⟩ | e
                · obtain ⟨z, z1, _, _, z4⟩ := I0.out.pass j hj
                  rw [e] at z1
                  injection z1 with z1
                  have z5 : z = y := by omega
                  rw [z5, HMY.out] at z4
                  exact absurd z4 hms
                · rw [← e, HMY.out]
                  exact hm0
              gi_wp2
              exact ⟨JK6.out, rfl, L', o, HQ.out, L1.out, L2.out⟩
      · have ht : thN N x = false := by
          unfold thN
          rw [HN.out]
          rcases (by omega : x < 0 ∨ (n : Int) ≤ x) with h | h
          · rw [decide_eq_false (by omega)]; rfl
          · rw [decide_eq_false (p := x < (n : Int)) (by omega), Bool.and_false]
        have HSX : Hid (k ≠ 0) := fun e => by
          subst e
          have h := HX.out
          injection h with h
          omega
        have HQ : Hid (Scan N a (s + 1) L' o) := by
          obtain ⟨z, z1, z2, _, z4⟩ := I0.out.pass 0 (Nat.pos_of_ne_zero HSX.out)
          have z5 : z = s := by
            injection z1 with z1
            omega
          refine HSC.out.plain I0.out (by rw [← z5, z4]; omega) (.inr (.inl ⟨x, HX.out, by rw [HN.out]; exact hin⟩))
        rw [ht]
        clear hin ht
        gi_wp2
        exact ⟨JK.out, rfl, L', o, HQ.out, J1.out, J2.out⟩
    case done =>
      rintro k W hk ⟨L', i0, i1, i2, i3, i4, i5, i6⟩ hD
      have HQ : Hid (Scan N a (s + 1) L' o) := by
        have h0 : k ≠ 0 := fun e => by subst e; cases hk
        obtain ⟨z, z1, z2, _, z4⟩ := i0.pass 0 (Nat.pos_of_ne_zero h0)
        have z5 : z = s := by
          injection z1 with z1
          omega
        exact HSC.out.plain i0 (by rw [← z5, z4]; omega) (.inl hk)
      have I1 := Lib.hid i1
      have I2 : Hid (Mks (w4.heap.size :: ds) (g + 1) W) := i2.more hD (by have h1 := HBH.out; have h2 := HGB.out; have h3 := HZ4.out; omega) (fun hm => by have := HDS.out _ hm; have h1 := HBH.out; have h3 := HZ4.out; omega)
      clear i0 i1 i2 i3 i4 i5 i6 hk hD
      gi_wp2
      refine ⟨⟨s + 1, L', o, w4.heap.size :: ds, _, _, _, _, _, _, _, _, _, _, _, _, _, _, _, _, _, _, _, _, _, _, _, _, _, _, _, _, _, _, _, _, _, _, _, _, _, _, _, _, _, _, _, _, _, _, rfl, by omega, HQ, I1, I2⟩, ?_⟩
      show n - ((s : Int) + 1).toNat < n - ((s : Int)).toNat
      omega
    case stop =>
      rintro z W ⟨rfl, L', o', i0, i1, i2⟩ hD
      have HQ := Lib.hid i0
      have I1 := Lib.hid i1
      have I2 : Hid (Mks (w4.heap.size :: ds) (g + 1) W) := i2.more hD (by have h1 := HBH.out; have h2 := HGB.out; have h3 := HZ4.out; omega) (fun hm => by have := HDS.out _ hm; have h1 := HBH.out; have h3 := HZ4.out; omega)
      clear i0 i1 i2 hD
      gi_wp2
      refine ⟨⟨s + 1, L', o', w4.heap.size :: ds, _, _, _, _, _, _, _, _, _, _, _, _, _, _, _, _, _, _, _, _, _, _, _, _, _, _, _, _, _, _, _, _, _, _, _, _, _, _, _, _, _, _, _, _, _, _, rfl, by omega, HQ, I1, I2⟩, ?_⟩
      show n - ((s : Int) + 1).toNat < n - ((s : Int)).toNat
      omega
  · obtain rfl : s = n := by omega
    gi_upto_region 16 with fail
    gi_region
    obtain ⟨a1, a2, _, a4, a5, _⟩ := set_two HLB.out.b2 HLB.out.b3 (by omega) (.int .i64 (o.getD 0)) (.bool o.isSome)
    have HLE := Lib.hid (HLB.out.bw.trans (a5 g (by omega) (by omega)))
    have HME := Lib.hid (HMK.out.keep a4)
    have A1 := Lib.hid a1
    have A2 := Lib.hid a2
    clear a1 a2 a4 a5 q0 q1 q2 q3 q5 f2 f3
    generalize (wr.setCell ⟨g + 1 + 1, 0, none⟩ (.int .i64 (o.getD 0))).setCell ⟨g + 1 + 1 + 1, 0, none⟩ (.bool o.isSome) = we at *
    gi_wp2
    refine leaves_marks ds _ HME.out.one HME.out.are fun V v1 v2 v3 v4 v5 => ?_
    have c1 := (A1.out.shut HME.out.are v1).cell 0 rfl
    have c2 := (A2.out.shut HME.out.are v1).cell 0 rfl
    exact ⟨.tuple #[.int .i64 (o.getD 0), .bool o.isSome], by simp [results, Try.f25, go_sem, c1, c2], o, L, HSC.out, rfl, by rw [HG.out]; exact below_shuts (HLE.out.trans (Below.refl g _).drew) (fun D hD => by have := HME.out.lows D hD; omega) v1 v2 v3 v4 v5⟩
end Go.Proofs.Ytpfpkghihpcbkaa
