
/-
  Requests: guess of the document's layer 6, walked (trial).
-/
import Derived.Test.YtaembpncoicdpaaGreatGm
import Derived.Deep.RegionHeld3
import Derived.Deep.DrawnRows
namespace Go.Proofs.YtaembpncoicdpaaGreat
open Go.RowKit

attribute [local go_sem ↓] Go.wp_at_zero Go.wp_at_succ

theorem stored_eight {w : World} {g : Nat} {c0 c1 c2 c3 c4 c5 c6 c7 : Value} {t : TypeId} (h : w.heap[g]? = some (.cells #[c0, c1, c2, c3, c4, c5, c6, c7] t (0, 0))) (d0 d1 d2 d3 d4 d5 d6 d7 : Value) :
    ((((((((w.setCell ⟨g, 0, none⟩ d0).setCell ⟨g, 1, none⟩ d1).setCell ⟨g, 2, none⟩ d2).setCell ⟨g, 3, none⟩ d3).setCell ⟨g, 4, none⟩ d4).setCell ⟨g, 5, none⟩ d5).setCell ⟨g, 6, none⟩ d6).setCell ⟨g, 7, none⟩ d7).heap[g]? = some (.cells #[d0, d1, d2, d3, d4, d5, d6, d7] t (0, 0)) := by
  simp [World.setCell, Array.getElem?_modify, h]
theorem below_eight {w w' : World} {B g : Nat} (h : Below B w w') (hg : B ≤ g) (d0 d1 d2 d3 d4 d5 d6 d7 : Value) : Below B w ((((((((w'.setCell ⟨g, 0, none⟩ d0).setCell ⟨g, 1, none⟩ d1).setCell ⟨g, 2, none⟩ d2).setCell ⟨g, 3, none⟩ d3).setCell ⟨g, 4, none⟩ d4).setCell ⟨g, 5, none⟩ d5).setCell ⟨g, 6, none⟩ d6).setCell ⟨g, 7, none⟩ d7) :=
  (((((((h.setCell (p := ⟨g, 0, none⟩) hg _).setCell (p := ⟨g, 1, none⟩) hg _).setCell (p := ⟨g, 2, none⟩) hg _).setCell (p := ⟨g, 3, none⟩) hg _).setCell (p := ⟨g, 4, none⟩) hg _).setCell (p := ⟨g, 5, none⟩) hg _).setCell (p := ⟨g, 6, none⟩) hg _).setCell (p := ⟨g, 7, none⟩) hg _
theorem lies_set {α : Type} {f : α → Value} {w : World} {A : Option Addr} {g : Nat} {l : List α} (h : Lies f w A l) (hne : ∀ b o s, A = some ⟨b, o, s⟩ → 0 < l.length → b ≠ g) (i : Nat) (v : Value) : Lies f (w.setCell ⟨g, i, none⟩ v) A l := by
  intro j hj
  obtain ⟨b, off, rfl, hc⟩ := h j hj
  exact ⟨b, off, rfl, (cell_far (hne _ _ _ rfl (by omega)) v).trans hc⟩
theorem lies_eight {α : Type} {f : α → Value} {w : World} {A : Option Addr} {g : Nat} {l : List α} (h : Lies f w A l) (hne : ∀ b o s, A = some ⟨b, o, s⟩ → 0 < l.length → b ≠ g) (d0 d1 d2 d3 d4 d5 d6 d7 : Value) : Lies f ((((((((w.setCell ⟨g, 0, none⟩ d0).setCell ⟨g, 1, none⟩ d1).setCell ⟨g, 2, none⟩ d2).setCell ⟨g, 3, none⟩ d3).setCell ⟨g, 4, none⟩ d4).setCell ⟨g, 5, none⟩ d5).setCell ⟨g, 6, none⟩ d6).setCell ⟨g, 7, none⟩ d7) A l :=
  lies_set (lies_set (lies_set (lies_set (lies_set (lies_set (lies_set (lies_set h hne _ _) hne _ _) hne _ _) hne _ _) hne _ _) hne _ _) hne _ _) hne _ _
theorem u16_of (M : Nat) (h : M < 65536) : ∃ U : UInt16, U.toNat = M ∧ UInt16.ofNat M = U ∧ IntKind.u16.wrap (M : Int) = (U.toNat : Int) := by
  refine ⟨UInt16.ofNat M, ?_, rfl, ?_⟩
  · rw [UInt16.toNat_ofNat']; omega
  · rw [UInt16.toNat_ofNat', IntWalk.u16_in _ (by omega)]; congr 1; omega
theorem far_eight {w : World} {g : Nat} {a0 a1 a2 a3 : Int} {A1 A2 : Option Addr} {n1 c1 n2 c2 : Nat} {e0 e1 : Int} {t : TypeId} {B : Option Addr} {l : List UInt8} (hg : w.heap[g]? = some (.cells #[.int .i64 a0, .int .i64 a1, .int .i64 a2, .int .i64 a3, .slice A1 n1 c1, .slice A2 n2 c2, .int .u16 e0, .int .u16 e1] t (0, 0))) (h : Lies u8v w B l) : ∀ b o s, B = some ⟨b, o, s⟩ → 0 < l.length → b ≠ g := by
  rintro b o s rfl h0 rfl
  obtain ⟨b', o', e, hc⟩ := h 0 h0
  cases e
  rw [cell_of_row w _ _ _ _ _ hg] at hc
  generalize o + 0 = i at hc
  rcases i with _ | _ | _ | _ | _ | _ | _ | _ | i <;> simp [u8v] at hc
theorem lies_low {α : Type} {f : α → Value} {w w' : World} {A : Option Addr} {B : Nat} {l : List α} (h : Lies f w A l) (hlt : ∀ b o s, A = some ⟨b, o, s⟩ → 0 < l.length → b < B) (hb : Below B w w') : Lies f w' A l := by
  intro j hj
  obtain ⟨b, off, rfl, hc⟩ := h j hj
  exact ⟨b, off, rfl, (World.cell?_of_block (w := w) (a := ⟨b, off + j, none⟩) (hb.block b (hlt _ _ _ rfl (by omega)))).trans hc⟩
theorem own_set {w : World} {B e k n g i : Nat} {v : Value} {xs : List Value} (h : w.ownsRow B e k v n xs) (hg : g < B) (x : Value) : (w.setCell ⟨g, i, none⟩ x).ownsRow B e k v n xs := by
  refine ⟨h.1, ?_⟩
  rcases h.2 with h' | ⟨g', cap, cur, rfl, hbg, hgg, rest⟩
  · exact .inl h'
  · exact .inr ⟨g', cap, cur, rfl, hbg, row_set_far hgg (by omega) x, rest⟩
theorem half_pow (x k : Nat) : x / 2 ^ (k + 1) = x / 2 ^ k / 2 := by rw [Nat.pow_succ, Nat.div_div_eq_div_mul]
theorem half_beq (x : Nat) : ((x : Int) % 2 == 1) = decide (x % 2 = 1) := by
  rcases Nat.mod_two_eq_zero_or_one x with h | h
  · rw [h, beq_eq_false_iff_ne.2 (by omega)]; rfl
  · rw [h, beq_iff_eq.2 (by omega)]; rfl
theorem Word.bitsOf_succ' (b : List UInt8) (j : Nat) : Word.bitsOf b (j + 1) = Word.bitsOf b j ++ [Word.bitAt b j] := by
  unfold Word.bitsOf
  rw [List.range_succ, List.map_append, List.map_cons, List.map_nil]
set_option maxRecDepth 100000 in
set_option maxHeartbeats 4000000 in
theorem rguess_any (A : Option Addr) (n c : Nat) (b : List UInt8) (hn : b.length = n) (h0 : 0 < n) (hnc : n ≤ c) (hcm : c ≤ maxLen) (hm : n ≤ 1000) (w : World) (hb : Lies u8v w A b) :
    Calls Tryz.prog 24 #[.slice A n c] w (GuessPost w b) := by
  obtain ⟨b1, o1, rfl, hlt1, hc⟩ := hb.at_ (by omega)
  have hmx : Tryz.prog.follows .mixedOrders = true := by kernel_rfl
  have hc0 := hc 0 (by omega)
  have e0 : b[0]'(by omega) = b.getD 0 0 := by rw [List.getD_eq_getElem?_getD, List.getElem?_eq_getElem (by omega)]; rfl
  rw [e0] at hc0
  obtain ⟨x, hx⟩ : ∃ x, b.getD 0 0 = x := ⟨_, rfl⟩
  rw [hx] at hc0
  obtain ⟨N, hN⟩ : ∃ N, Ak.num b 1 = N := ⟨_, rfl⟩
  have HX := Lib.hid (And.intro hx hN)
  have HB := Lib.hid hb
  clear hc e0 hx hb
  go_enter Tryz.func24, Tryz.ntmps24
  go_wp2_with fail
  rename_i K hKK
  obtain ⟨W0, hW0⟩ : ∃ W0, w.alloc (.cells #[.int .i64 0, .int .i64 0, .int .i64 0, .int .i64 0, .slice none 0 0, .slice none 0 0, .int .u16 0, .int .u16 0] 30) = W0 := ⟨_, rfl⟩
  rw [hW0]
  have hbw : Below w.heap.size w W0 := by rw [← hW0]; exact (Below.refl _ w).alloc (Nat.le_refl _) _
  have hc0' : W0.cell? ⟨b1, o1, none⟩ = some (u8v x) := (hbw.cell (p := ⟨b1, o1, none⟩) hlt1).trans hc0
  have hlt2 := hbw.size
  have hsz : w.heap.size < W0.heap.size := by rw [← hW0]; simp
  have hres0 : W0.heap[w.heap.size]? = some (.cells #[.int .i64 0, .int .i64 0, .int .i64 0, .int .i64 0, .slice none 0 0, .slice none 0 0, .int .u16 0, .int .u16 0] 30 (0, 0)) := by rw [← hW0]; exact heap_alloc_new w _
  have REST : Hid (∀ (g : Nat) (W : World), W0.heap.size ≤ g → Below W0.heap.size W0 W → W.heap[g]? = some (.cells #[.int .i64 (x.toNat : Int), .int .i64 (N : Int), .int .i64 0, .int .i64 0, .slice none 0 0, .slice none 0 0, .int .u16 0, .int .u16 0] 30 (0, 0)) → K { tmps := #[.slice (some ⟨b1, o1, none⟩) n c, undef, .pointer (some ⟨w.heap.size, 0, none⟩), .pointer (some ⟨g, 0, none⟩), undef, undef, undef, undef, undef, .slice (some ⟨b1, o1, none⟩) n c, .pointer (some ⟨b1, o1, none⟩), u8v x, .int .i64 (x.toNat : Int), .slice (some ⟨b1, o1, none⟩) n c, .int .i64 (N : Int), .agg #[.int .i64 (x.toNat : Int), .int .i64 (N : Int), .int .i64 0, .int .i64 0, .slice none 0 0, .slice none 0 0, .int .u16 0, .int .u16 0], undef, undef, undef, undef, undef, undef, undef, undef, undef, undef, undef, undef, undef, undef, undef, undef, undef, undef, undef, undef, undef, undef, undef, undef, undef, undef, undef, undef, undef, undef, undef, undef, undef, undef, undef, undef, undef, undef, undef, undef, undef, undef, undef, undef, undef, undef, undef, undef, undef, undef, undef, undef, undef, undef, undef, undef, undef, undef, undef, undef, undef, undef, undef, undef, undef, undef, undef, undef, undef, undef, undef, undef, undef, undef, undef, undef, undef, undef, undef, undef, undef, undef, undef, undef, undef, undef, undef, undef, undef, undef, undef, undef, undef, undef, undef, undef, undef, undef, undef, undef, undef, undef, undef, undef, undef, undef, undef, undef, undef, undef, undef, undef, undef, undef, undef], defers := [] } W) := Lib.hid (by
    intro g W hg hbe hrow
    have hz := hbe.size
    have hres : W.heap[w.heap.size]? = some (.cells #[.int .i64 0, .int .i64 0, .int .i64 0, .int .i64 0, .slice none 0 0, .slice none 0 0, .int .u16 0, .int .u16 0] 30 (0, 0)) := (hbe.block _ hsz).trans hres0
    have hL := (HB.out.below hbw (Nat.le_refl _)).below hbe (Nat.le_refl _)
    have hbW := hbw.trans (hbe.mono hlt2)
    refine hKK _ _ ?_
    clear hKK hres0 hW0 hc0'
    obtain ⟨M, hM⟩ : ∃ M, Ak.num b 3 = M := ⟨_, rfl⟩
    have HM := Lib.hid hM
    have hMl : M < 65536 := by rw [← hM]; exact Ak.num_lt b 3
    obtain ⟨M5, hM5⟩ : ∃ M, Ak.num b 5 = M := ⟨_, rfl⟩
    have HM5 := Lib.hid hM5
    have hM5l : M5 < 65536 := by rw [← hM5]; exact Ak.num_lt b 5
    clear hM hM5
    have hgne : g ≠ w.heap.size := by omega
    have hgw : w.heap.size ≤ g := by omega
    have hb1g : b1 ≠ g := by omega
    have hnum : ∀ (k : Nat), k ≤ 1000 → ∀ W : World, Lies u8v W (some ⟨b1, o1, none⟩) b → Calls Tryz.prog 63 #[.slice (some ⟨b1, o1, none⟩) n c, .int .i64 (k : Int)] W fun e w' => e = .returned (.int .i64 ((Ak.num b k : Nat) : Int)) ∧ Below W.heap.size W w' := fun k hk W h => (rnumber_any _ n c k b hn hk (by omega) W h).mono (by
      rintro e w' ⟨rfl, q, rfl⟩
      exact ⟨rfl, drewN_below (Below.refl _ _) q⟩)
    have hnum3 : ∀ W : World, Lies u8v W (some ⟨b1, o1, none⟩) b → Calls Tryz.prog 63 #[.slice (some ⟨b1, o1, none⟩) n c, .int .i64 3] W fun e w' => e = .returned (.int .i64 ((Ak.num b 3 : Nat) : Int)) ∧ Below W.heap.size W w' := hnum 3 (by omega)
    have hnum5 : ∀ W : World, Lies u8v W (some ⟨b1, o1, none⟩) b → Calls Tryz.prog 63 #[.slice (some ⟨b1, o1, none⟩) n c, .int .i64 5] W fun e w' => e = .returned (.int .i64 ((Ak.num b 5 : Nat) : Int)) ∧ Below W.heap.size W w' := hnum 5 (by omega)
    by_cases e1 : x.toNat = 1
    · have XC : (x.toNat : Int) = 1 := by rw [e1]; rfl
      have HG : Hid (Ak.guess b = ⟨1, N, M, 0, [], [], 0, 0⟩) := Lib.hid (by unfold Ak.guess; rw [HX.out.1, HX.out.2]; simp [Ak.zero, e1, HM.out])
      rw [XC] at hrow ⊢
      obtain ⟨z0, z1, z2, z3, z4, z5, z6, z7⟩ := row_eight hrow
      obtain ⟨v0, v1, v2, v3, v4, v5, v6, v7⟩ := row_eight_free hrow
      obtain ⟨y0, y1, y2, y3, y4, y5, y6, y7⟩ := row_eight hres
      obtain ⟨f0, f1, f2, f3, f4, f5, f6, f7⟩ := row_eight_free hres
      go_wp2_with fail
      refine (hnum3 _ hL).mono ?_
      rintro e w2 ⟨rfl, hb2⟩
      have hrow2 := row_later hrow hb2
      have hres2 := row_later hres hb2
      have hbw2 := hbW.trans (Below.mono hb2 hbW.size)
      have hL2 := hL.below hb2 (Nat.le_refl _)
      rw [HM.out]
      obtain ⟨z0, z1, z2, z3, z4, z5, z6, z7⟩ := row_eight hrow2
      obtain ⟨v0, v1, v2, v3, v4, v5, v6, v7⟩ := row_eight_free hrow2
      obtain ⟨y0, y1, y2, y3, y4, y5, y6, y7⟩ := row_eight hres2
      obtain ⟨f0, f1, f2, f3, f4, f5, f6, f7⟩ := row_eight_free hres2
      have hrow3 : (World.setCell (w2) ⟨g, 2, none⟩ (.int .i64 (M : Int))).heap[g]? = some (.cells #[.int .i64 1, .int .i64 (N : Int), .int .i64 (M : Int), .int .i64 0, .slice none 0 0, .slice none 0 0, .int .u16 0, .int .u16 0] 30 (0, 0)) := by simpa using row_set hrow2 (i := 2) (.int .i64 (M : Int))
      have hres3 := row_set_far (i := 2) hres2 hgne (.int .i64 (M : Int))
      have hbw3 := hbw2.setCell (p := ⟨g, 2, none⟩) hgw (.int .i64 (M : Int))
      have hL3 := lies_set hL2 (fun b' o' s' e _ => by cases e; exact hb1g) 2 (.int .i64 (M : Int))
      obtain ⟨zz0, zz1, zz2, zz3, zz4, zz5, zz6, zz7⟩ := row_eight hrow3
      obtain ⟨vv0, vv1, vv2, vv3, vv4, vv5, vv6, vv7⟩ := row_eight_free hrow3
      obtain ⟨yy0, yy1, yy2, yy3, yy4, yy5, yy6, yy7⟩ := row_eight hres3
      obtain ⟨ff0, ff1, ff2, ff3, ff4, ff5, ff6, ff7⟩ := row_eight_free hres3
      go_wp2_with fail
      obtain ⟨r0, r1, r2, r3, r4, r5, r6, r7⟩ := row_eight (stored_eight hres3 (.int .i64 1) (.int .i64 (N : Int)) (.int .i64 (M : Int)) (.int .i64 0) (.slice none 0 0) (.slice none 0 0) (.int .u16 0) (.int .u16 0))
      refine bodyPost_ret_by (v := askV (Ak.guess b) (none, 0, 0) (none, 0, 0)) (by rw [HG.out]; simp [askV, results, Tryz.f24, go_sem, r0, r1, r2, r3, r4, r5, r6, r7]) rfl ?_
      exact ⟨(none, 0, 0), (none, 0, 0), rfl, by rw [HG.out]; exact ⟨rfl, Nat.le_refl _, Nat.zero_le _, Lies.nil _ _, rfl, Nat.le_refl _, Nat.zero_le _, Lies.nil _ _⟩, below_eight hbw3 (Nat.le_refl _) _ _ _ _ _ _ _ _, FarH.none _ _ _, FarH.none _ _ _⟩
    by_cases e2 : x.toNat = 2
    · have XC : (x.toNat : Int) = 2 := by rw [e2]; rfl
      have HG : Hid (Ak.guess b = ⟨2, N, M, 0, [], [], 0, 0⟩) := Lib.hid (by unfold Ak.guess; rw [HX.out.1, HX.out.2]; simp [Ak.zero, e2, HM.out])
      rw [XC] at hrow ⊢
      obtain ⟨z0, z1, z2, z3, z4, z5, z6, z7⟩ := row_eight hrow
      obtain ⟨v0, v1, v2, v3, v4, v5, v6, v7⟩ := row_eight_free hrow
      obtain ⟨y0, y1, y2, y3, y4, y5, y6, y7⟩ := row_eight hres
      obtain ⟨f0, f1, f2, f3, f4, f5, f6, f7⟩ := row_eight_free hres
      go_wp2_with fail
      refine (hnum3 _ hL).mono ?_
      rintro e w2 ⟨rfl, hb2⟩
      have hrow2 := row_later hrow hb2
      have hres2 := row_later hres hb2
      have hbw2 := hbW.trans (Below.mono hb2 hbW.size)
      have hL2 := hL.below hb2 (Nat.le_refl _)
      rw [HM.out]
      obtain ⟨z0, z1, z2, z3, z4, z5, z6, z7⟩ := row_eight hrow2
      obtain ⟨v0, v1, v2, v3, v4, v5, v6, v7⟩ := row_eight_free hrow2
      obtain ⟨y0, y1, y2, y3, y4, y5, y6, y7⟩ := row_eight hres2
      obtain ⟨f0, f1, f2, f3, f4, f5, f6, f7⟩ := row_eight_free hres2
      have hrow3 : (World.setCell (w2) ⟨g, 2, none⟩ (.int .i64 (M : Int))).heap[g]? = some (.cells #[.int .i64 2, .int .i64 (N : Int), .int .i64 (M : Int), .int .i64 0, .slice none 0 0, .slice none 0 0, .int .u16 0, .int .u16 0] 30 (0, 0)) := by simpa using row_set hrow2 (i := 2) (.int .i64 (M : Int))
      have hres3 := row_set_far (i := 2) hres2 hgne (.int .i64 (M : Int))
      have hbw3 := hbw2.setCell (p := ⟨g, 2, none⟩) hgw (.int .i64 (M : Int))
      have hL3 := lies_set hL2 (fun b' o' s' e _ => by cases e; exact hb1g) 2 (.int .i64 (M : Int))
      obtain ⟨zz0, zz1, zz2, zz3, zz4, zz5, zz6, zz7⟩ := row_eight hrow3
      obtain ⟨vv0, vv1, vv2, vv3, vv4, vv5, vv6, vv7⟩ := row_eight_free hrow3
      obtain ⟨yy0, yy1, yy2, yy3, yy4, yy5, yy6, yy7⟩ := row_eight hres3
      obtain ⟨ff0, ff1, ff2, ff3, ff4, ff5, ff6, ff7⟩ := row_eight_free hres3
      go_wp2_with fail
      obtain ⟨r0, r1, r2, r3, r4, r5, r6, r7⟩ := row_eight (stored_eight hres3 (.int .i64 2) (.int .i64 (N : Int)) (.int .i64 (M : Int)) (.int .i64 0) (.slice none 0 0) (.slice none 0 0) (.int .u16 0) (.int .u16 0))
      refine bodyPost_ret_by (v := askV (Ak.guess b) (none, 0, 0) (none, 0, 0)) (by rw [HG.out]; simp [askV, results, Tryz.f24, go_sem, r0, r1, r2, r3, r4, r5, r6, r7]) rfl ?_
      exact ⟨(none, 0, 0), (none, 0, 0), rfl, by rw [HG.out]; exact ⟨rfl, Nat.le_refl _, Nat.zero_le _, Lies.nil _ _, rfl, Nat.le_refl _, Nat.zero_le _, Lies.nil _ _⟩, below_eight hbw3 (Nat.le_refl _) _ _ _ _ _ _ _ _, FarH.none _ _ _, FarH.none _ _ _⟩
    by_cases e3 : x.toNat = 3
    · have XC : (x.toNat : Int) = 3 := by rw [e3]; rfl
      have HG : Hid (Ak.guess b = ⟨3, N, M, 0, [], [], 0, 0⟩) := Lib.hid (by unfold Ak.guess; rw [HX.out.1, HX.out.2]; simp [Ak.zero, e3, HM.out])
      rw [XC] at hrow ⊢
      obtain ⟨z0, z1, z2, z3, z4, z5, z6, z7⟩ := row_eight hrow
      obtain ⟨v0, v1, v2, v3, v4, v5, v6, v7⟩ := row_eight_free hrow
      obtain ⟨y0, y1, y2, y3, y4, y5, y6, y7⟩ := row_eight hres
      obtain ⟨f0, f1, f2, f3, f4, f5, f6, f7⟩ := row_eight_free hres
      go_wp2_with fail
      refine (hnum3 _ hL).mono ?_
      rintro e w2 ⟨rfl, hb2⟩
      have hrow2 := row_later hrow hb2
      have hres2 := row_later hres hb2
      have hbw2 := hbW.trans (Below.mono hb2 hbW.size)
      have hL2 := hL.below hb2 (Nat.le_refl _)
      rw [HM.out]
      obtain ⟨z0, z1, z2, z3, z4, z5, z6, z7⟩ := row_eight hrow2
      obtain ⟨v0, v1, v2, v3, v4, v5, v6, v7⟩ := row_eight_free hrow2
      obtain ⟨y0, y1, y2, y3, y4, y5, y6, y7⟩ := row_eight hres2
      obtain ⟨f0, f1, f2, f3, f4, f5, f6, f7⟩ := row_eight_free hres2
      have hrow3 : (World.setCell (w2) ⟨g, 2, none⟩ (.int .i64 (M : Int))).heap[g]? = some (.cells #[.int .i64 3, .int .i64 (N : Int), .int .i64 (M : Int), .int .i64 0, .slice none 0 0, .slice none 0 0, .int .u16 0, .int .u16 0] 30 (0, 0)) := by simpa using row_set hrow2 (i := 2) (.int .i64 (M : Int))
      have hres3 := row_set_far (i := 2) hres2 hgne (.int .i64 (M : Int))
      have hbw3 := hbw2.setCell (p := ⟨g, 2, none⟩) hgw (.int .i64 (M : Int))
      have hL3 := lies_set hL2 (fun b' o' s' e _ => by cases e; exact hb1g) 2 (.int .i64 (M : Int))
      obtain ⟨zz0, zz1, zz2, zz3, zz4, zz5, zz6, zz7⟩ := row_eight hrow3
      obtain ⟨vv0, vv1, vv2, vv3, vv4, vv5, vv6, vv7⟩ := row_eight_free hrow3
      obtain ⟨yy0, yy1, yy2, yy3, yy4, yy5, yy6, yy7⟩ := row_eight hres3
      obtain ⟨ff0, ff1, ff2, ff3, ff4, ff5, ff6, ff7⟩ := row_eight_free hres3
      go_wp2_with fail
      obtain ⟨r0, r1, r2, r3, r4, r5, r6, r7⟩ := row_eight (stored_eight hres3 (.int .i64 3) (.int .i64 (N : Int)) (.int .i64 (M : Int)) (.int .i64 0) (.slice none 0 0) (.slice none 0 0) (.int .u16 0) (.int .u16 0))
      refine bodyPost_ret_by (v := askV (Ak.guess b) (none, 0, 0) (none, 0, 0)) (by rw [HG.out]; simp [askV, results, Tryz.f24, go_sem, r0, r1, r2, r3, r4, r5, r6, r7]) rfl ?_
      exact ⟨(none, 0, 0), (none, 0, 0), rfl, by rw [HG.out]; exact ⟨rfl, Nat.le_refl _, Nat.zero_le _, Lies.nil _ _, rfl, Nat.le_refl _, Nat.zero_le _, Lies.nil _ _⟩, below_eight hbw3 (Nat.le_refl _) _ _ _ _ _ _ _ _, FarH.none _ _ _, FarH.none _ _ _⟩
    by_cases e4 : x.toNat = 4
    · have XC : (x.toNat : Int) = 4 := by rw [e4]; rfl
      have HG : Hid (Ak.guess b = ⟨4, N, M, 0, [], [], 0, 0⟩) := Lib.hid (by unfold Ak.guess; rw [HX.out.1, HX.out.2]; simp [Ak.zero, e4, HM.out])
      rw [XC] at hrow ⊢
      obtain ⟨z0, z1, z2, z3, z4, z5, z6, z7⟩ := row_eight hrow
      obtain ⟨v0, v1, v2, v3, v4, v5, v6, v7⟩ := row_eight_free hrow
      obtain ⟨y0, y1, y2, y3, y4, y5, y6, y7⟩ := row_eight hres
      obtain ⟨f0, f1, f2, f3, f4, f5, f6, f7⟩ := row_eight_free hres
      go_wp2_with fail
      refine (hnum3 _ hL).mono ?_
      rintro e w2 ⟨rfl, hb2⟩
      have hrow2 := row_later hrow hb2
      have hres2 := row_later hres hb2
      have hbw2 := hbW.trans (Below.mono hb2 hbW.size)
      have hL2 := hL.below hb2 (Nat.le_refl _)
      rw [HM.out]
      obtain ⟨z0, z1, z2, z3, z4, z5, z6, z7⟩ := row_eight hrow2
      obtain ⟨v0, v1, v2, v3, v4, v5, v6, v7⟩ := row_eight_free hrow2
      obtain ⟨y0, y1, y2, y3, y4, y5, y6, y7⟩ := row_eight hres2
      obtain ⟨f0, f1, f2, f3, f4, f5, f6, f7⟩ := row_eight_free hres2
      have hrow3 : (World.setCell (w2) ⟨g, 2, none⟩ (.int .i64 (M : Int))).heap[g]? = some (.cells #[.int .i64 4, .int .i64 (N : Int), .int .i64 (M : Int), .int .i64 0, .slice none 0 0, .slice none 0 0, .int .u16 0, .int .u16 0] 30 (0, 0)) := by simpa using row_set hrow2 (i := 2) (.int .i64 (M : Int))
      have hres3 := row_set_far (i := 2) hres2 hgne (.int .i64 (M : Int))
      have hbw3 := hbw2.setCell (p := ⟨g, 2, none⟩) hgw (.int .i64 (M : Int))
      have hL3 := lies_set hL2 (fun b' o' s' e _ => by cases e; exact hb1g) 2 (.int .i64 (M : Int))
      obtain ⟨zz0, zz1, zz2, zz3, zz4, zz5, zz6, zz7⟩ := row_eight hrow3
      obtain ⟨vv0, vv1, vv2, vv3, vv4, vv5, vv6, vv7⟩ := row_eight_free hrow3
      obtain ⟨yy0, yy1, yy2, yy3, yy4, yy5, yy6, yy7⟩ := row_eight hres3
      obtain ⟨ff0, ff1, ff2, ff3, ff4, ff5, ff6, ff7⟩ := row_eight_free hres3
      go_wp2_with fail
      obtain ⟨r0, r1, r2, r3, r4, r5, r6, r7⟩ := row_eight (stored_eight hres3 (.int .i64 4) (.int .i64 (N : Int)) (.int .i64 (M : Int)) (.int .i64 0) (.slice none 0 0) (.slice none 0 0) (.int .u16 0) (.int .u16 0))
      refine bodyPost_ret_by (v := askV (Ak.guess b) (none, 0, 0) (none, 0, 0)) (by rw [HG.out]; simp [askV, results, Tryz.f24, go_sem, r0, r1, r2, r3, r4, r5, r6, r7]) rfl ?_
      exact ⟨(none, 0, 0), (none, 0, 0), rfl, by rw [HG.out]; exact ⟨rfl, Nat.le_refl _, Nat.zero_le _, Lies.nil _ _, rfl, Nat.le_refl _, Nat.zero_le _, Lies.nil _ _⟩, below_eight hbw3 (Nat.le_refl _) _ _ _ _ _ _ _ _, FarH.none _ _ _, FarH.none _ _ _⟩
    by_cases e5 : x.toNat = 5
    · have XC : (x.toNat : Int) = 5 := by rw [e5]; rfl
      obtain ⟨B, hB⟩ : ∃ B, (M != 0) = B := ⟨_, rfl⟩
      have hB' : ((M : Int) != 0) = B := by
        rw [← hB]
        by_cases h : M = 0
        · subst h; rfl
        · rw [bne_iff_ne.2 h, bne_iff_ne.2 (by omega)]
      have HG : Hid (Ak.guess b = ⟨5, N, 0, 0, [], [B], 0, 0⟩) := Lib.hid (by unfold Ak.guess; rw [HX.out.1, HX.out.2]; simp [Ak.zero, e5, HM.out, hB])
      rw [XC] at hrow ⊢
      obtain ⟨z0, z1, z2, z3, z4, z5, z6, z7⟩ := row_eight hrow
      obtain ⟨v0, v1, v2, v3, v4, v5, v6, v7⟩ := row_eight_free hrow
      obtain ⟨y0, y1, y2, y3, y4, y5, y6, y7⟩ := row_eight hres
      obtain ⟨f0, f1, f2, f3, f4, f5, f6, f7⟩ := row_eight_free hres
      go_wp2_with fail
      refine (hnum3 _ hL).mono ?_
      rintro e w2 ⟨rfl, hb2⟩
      have hrow2 := row_later hrow hb2
      have hres2 := row_later hres hb2
      have hbw2 := hbW.trans (Below.mono hb2 hbW.size)
      have hL2 := hL.below hb2 (Nat.le_refl _)
      rw [HM.out]
      obtain ⟨z0, z1, z2, z3, z4, z5, z6, z7⟩ := row_eight hrow2
      obtain ⟨v0, v1, v2, v3, v4, v5, v6, v7⟩ := row_eight_free hrow2
      obtain ⟨y0, y1, y2, y3, y4, y5, y6, y7⟩ := row_eight hres2
      obtain ⟨f0, f1, f2, f3, f4, f5, f6, f7⟩ := row_eight_free hres2
      have hrow3 : (World.setCell (w2) ⟨g, 5, none⟩ (.slice (some ⟨w2.heap.size, 0, none⟩) 1 1)).heap[g]? = some (.cells #[.int .i64 5, .int .i64 (N : Int), .int .i64 0, .int .i64 0, .slice none 0 0, .slice (some ⟨w2.heap.size, 0, none⟩) 1 1, .int .u16 0, .int .u16 0] 30 (0, 0)) := by simpa using row_set hrow2 (i := 5) (.slice (some ⟨w2.heap.size, 0, none⟩) 1 1)
      have hres3 := row_set_far (i := 5) hres2 hgne (.slice (some ⟨w2.heap.size, 0, none⟩) 1 1)
      have hbw3 := hbw2.setCell (p := ⟨g, 5, none⟩) hgw (.slice (some ⟨w2.heap.size, 0, none⟩) 1 1)
      have hL3 := lies_set hL2 (fun b' o' s' e _ => by cases e; exact hb1g) 5 (.slice (some ⟨w2.heap.size, 0, none⟩) 1 1)
      have hb4 := (Below.refl _ (World.setCell (w2) ⟨g, 5, none⟩ (.slice (some ⟨w2.heap.size, 0, none⟩) 1 1))).alloc (Nat.le_refl _) (.cells #[.bool B] 4)
      have hrow4 := row_later hrow3 hb4
      have hres4 := row_later hres3 hb4
      have hbw4 := hbw3.trans (Below.mono hb4 hbw3.size)
      have hL4 := hL3.below hb4 (Nat.le_refl _)
      have hgl := row_lt hrow2
      have hy : Lies bitv (World.alloc (World.setCell (w2) ⟨g, 5, none⟩ (.slice (some ⟨w2.heap.size, 0, none⟩) 1 1)) (.cells #[.bool B] 4)) (some ⟨w2.heap.size, 0, none⟩) [B] := lies_at _ _ _ _ _ rfl (by simp [World.setCell])
      obtain ⟨zz0, zz1, zz2, zz3, zz4, zz5, zz6, zz7⟩ := row_eight hrow4
      obtain ⟨vv0, vv1, vv2, vv3, vv4, vv5, vv6, vv7⟩ := row_eight_free hrow4
      obtain ⟨yy0, yy1, yy2, yy3, yy4, yy5, yy6, yy7⟩ := row_eight hres4
      obtain ⟨ff0, ff1, ff2, ff3, ff4, ff5, ff6, ff7⟩ := row_eight_free hres4
      go_wp2_with fail
      obtain ⟨r0, r1, r2, r3, r4, r5, r6, r7⟩ := row_eight (stored_eight hres4 (.int .i64 5) (.int .i64 (N : Int)) (.int .i64 0) (.int .i64 0) (.slice none 0 0) (.slice (some ⟨w2.heap.size, 0, none⟩) 1 1) (.int .u16 0) (.int .u16 0))
      refine bodyPost_ret_by (v := askV (Ak.guess b) (none, 0, 0) (some ⟨w2.heap.size, 0, none⟩, 1, 1)) (by rw [HG.out]; simp [askV, results, Tryz.f24, go_sem, r0, r1, r2, r3, r4, r5, r6, r7]) rfl ?_
      exact ⟨(none, 0, 0), (some ⟨w2.heap.size, 0, none⟩, 1, 1), rfl, by rw [HG.out]; exact ⟨rfl, Nat.le_refl _, Nat.zero_le _, Lies.nil _ _, rfl, Nat.le_refl _, by show 1 ≤ maxLen; unfold maxLen; omega, lies_eight hy (fun b' o' s' e _ => by cases e; omega) _ _ _ _ _ _ _ _⟩, below_eight hbw4 (Nat.le_refl _) _ _ _ _ _ _ _ _, FarH.none _ _ _, (fun b' o' s' e _ => by cases e; omega)⟩
    by_cases e6 : x.toNat = 6
    · have XC : (x.toNat : Int) = 6 := by rw [e6]; rfl
      obtain ⟨U, -, hU2, hU3⟩ := u16_of M hMl
      have HG : Hid (Ak.guess b = ⟨6, N, 0, 0, [U], [], 0, 0⟩) := Lib.hid (by unfold Ak.guess; rw [HX.out.1, HX.out.2]; simp [Ak.zero, e6, HM.out, hU2])
      rw [XC] at hrow ⊢
      obtain ⟨z0, z1, z2, z3, z4, z5, z6, z7⟩ := row_eight hrow
      obtain ⟨v0, v1, v2, v3, v4, v5, v6, v7⟩ := row_eight_free hrow
      obtain ⟨y0, y1, y2, y3, y4, y5, y6, y7⟩ := row_eight hres
      obtain ⟨f0, f1, f2, f3, f4, f5, f6, f7⟩ := row_eight_free hres
      go_wp2_with fail
      refine (hnum3 _ hL).mono ?_
      rintro e w2 ⟨rfl, hb2⟩
      have hrow2 := row_later hrow hb2
      have hres2 := row_later hres hb2
      have hbw2 := hbW.trans (Below.mono hb2 hbW.size)
      have hL2 := hL.below hb2 (Nat.le_refl _)
      rw [HM.out]
      obtain ⟨z0, z1, z2, z3, z4, z5, z6, z7⟩ := row_eight hrow2
      obtain ⟨v0, v1, v2, v3, v4, v5, v6, v7⟩ := row_eight_free hrow2
      obtain ⟨y0, y1, y2, y3, y4, y5, y6, y7⟩ := row_eight hres2
      obtain ⟨f0, f1, f2, f3, f4, f5, f6, f7⟩ := row_eight_free hres2
      have hrow3 : (World.setCell (w2) ⟨g, 4, none⟩ (.slice (some ⟨w2.heap.size, 0, none⟩) 1 1)).heap[g]? = some (.cells #[.int .i64 6, .int .i64 (N : Int), .int .i64 0, .int .i64 0, .slice (some ⟨w2.heap.size, 0, none⟩) 1 1, .slice none 0 0, .int .u16 0, .int .u16 0] 30 (0, 0)) := by simpa using row_set hrow2 (i := 4) (.slice (some ⟨w2.heap.size, 0, none⟩) 1 1)
      have hres3 := row_set_far (i := 4) hres2 hgne (.slice (some ⟨w2.heap.size, 0, none⟩) 1 1)
      have hbw3 := hbw2.setCell (p := ⟨g, 4, none⟩) hgw (.slice (some ⟨w2.heap.size, 0, none⟩) 1 1)
      have hL3 := lies_set hL2 (fun b' o' s' e _ => by cases e; exact hb1g) 4 (.slice (some ⟨w2.heap.size, 0, none⟩) 1 1)
      have hb4 := (Below.refl _ (World.setCell (w2) ⟨g, 4, none⟩ (.slice (some ⟨w2.heap.size, 0, none⟩) 1 1))).alloc (Nat.le_refl _) (.cells #[.int .u16 (U.toNat : Int)] 24)
      have hrow4 := row_later hrow3 hb4
      have hres4 := row_later hres3 hb4
      have hbw4 := hbw3.trans (Below.mono hb4 hbw3.size)
      have hL4 := hL3.below hb4 (Nat.le_refl _)
      have hgl := row_lt hrow2
      have hy : Lies u16v (World.alloc (World.setCell (w2) ⟨g, 4, none⟩ (.slice (some ⟨w2.heap.size, 0, none⟩) 1 1)) (.cells #[.int .u16 (U.toNat : Int)] 24)) (some ⟨w2.heap.size, 0, none⟩) [U] := lies_at _ _ _ _ _ rfl (by simp [World.setCell])
      obtain ⟨zz0, zz1, zz2, zz3, zz4, zz5, zz6, zz7⟩ := row_eight hrow4
      obtain ⟨vv0, vv1, vv2, vv3, vv4, vv5, vv6, vv7⟩ := row_eight_free hrow4
      obtain ⟨yy0, yy1, yy2, yy3, yy4, yy5, yy6, yy7⟩ := row_eight hres4
      obtain ⟨ff0, ff1, ff2, ff3, ff4, ff5, ff6, ff7⟩ := row_eight_free hres4
      go_wp2_with fail
      obtain ⟨r0, r1, r2, r3, r4, r5, r6, r7⟩ := row_eight (stored_eight hres4 (.int .i64 6) (.int .i64 (N : Int)) (.int .i64 0) (.int .i64 0) (.slice (some ⟨w2.heap.size, 0, none⟩) 1 1) (.slice none 0 0) (.int .u16 0) (.int .u16 0))
      refine bodyPost_ret_by (v := askV (Ak.guess b) (some ⟨w2.heap.size, 0, none⟩, 1, 1) (none, 0, 0)) (by rw [HG.out]; simp [askV, results, Tryz.f24, go_sem, r0, r1, r2, r3, r4, r5, r6, r7]) rfl ?_
      exact ⟨(some ⟨w2.heap.size, 0, none⟩, 1, 1), (none, 0, 0), rfl, by rw [HG.out]; exact ⟨rfl, Nat.le_refl _, by show 1 ≤ maxLen; unfold maxLen; omega, lies_eight hy (fun b' o' s' e _ => by cases e; omega) _ _ _ _ _ _ _ _, rfl, Nat.le_refl _, Nat.zero_le _, Lies.nil _ _⟩, below_eight hbw4 (Nat.le_refl _) _ _ _ _ _ _ _ _, (fun b' o' s' e _ => by cases e; omega), FarH.none _ _ _⟩
    by_cases e15 : x.toNat = 15
    · have XC : (x.toNat : Int) = 15 := by rw [e15]; rfl
      have HG : Hid (Ak.guess b = ⟨15, N, 0, 0, [], Word.bitsOf (b.drop 6) (min M (8 * (b.drop 6).length)), 0, 0⟩) := Lib.hid (by unfold Ak.guess; rw [HX.out.1, HX.out.2]; simp [Ak.zero, e15, HM.out])
      rw [XC] at hrow ⊢
      obtain ⟨z0, z1, z2, z3, z4, z5, z6, z7⟩ := row_eight hrow
      obtain ⟨v0, v1, v2, v3, v4, v5, v6, v7⟩ := row_eight_free hrow
      obtain ⟨y0, y1, y2, y3, y4, y5, y6, y7⟩ := row_eight hres
      obtain ⟨f0, f1, f2, f3, f4, f5, f6, f7⟩ := row_eight_free hres
      go_wp2_with fail
      refine (hnum3 _ hL).mono ?_
      rintro e w2 ⟨rfl, hb2⟩
      have hrow2 := row_later hrow hb2
      have hres2 := row_later hres hb2
      have hbw2 := hbW.trans (Below.mono hb2 hbW.size)
      have hL2 := hL.below hb2 (Nat.le_refl _)
      rw [HM.out]
      obtain ⟨z0, z1, z2, z3, z4, z5, z6, z7⟩ := row_eight hrow2
      obtain ⟨v0, v1, v2, v3, v4, v5, v6, v7⟩ := row_eight_free hrow2
      obtain ⟨y0, y1, y2, y3, y4, y5, y6, y7⟩ := row_eight hres2
      obtain ⟨f0, f1, f2, f3, f4, f5, f6, f7⟩ := row_eight_free hres2
      go_wp2_with fail
      refine (rbehind_any _ n c 6 b hn hnc hcm (by omega) _ hL2).mono ?_
      rintro e wx3 ⟨Ap, mp, cp, rfl, hmp, hmc, hcp, hlp, hwx3⟩
      rw [hwx3]
      clear hwx3
      obtain ⟨p, hp⟩ : ∃ p, b.drop 6 = p := ⟨_, rfl⟩
      rw [hp] at hlp hmp HG
      have hmp2 : mp ≤ 1000 := by have h := hmp; rw [← hp, List.length_drop] at h; omega
      have hgB := row_lt hrow2
      have hpB : ∀ b' o' s', Ap = some ⟨b', o', s'⟩ → 0 < p.length → b' < w2.heap.size := fun b' o' s' e h0 => by
        obtain ⟨_, _, e', hc⟩ := hlp 0 h0
        rw [e] at e'
        cases e'
        exact World.block_lt_of_cell? _ _ hc
      have hpg := far_eight hrow2 hlp
      clear hp
      obtain ⟨B, hB⟩ : ∃ B, w2.heap.size = B := ⟨_, rfl⟩
      rw [hB] at hgB hpB
      have hBB : B ≤ w2.heap.size := Nat.le_of_eq hB.symm
      have HPB := Lib.hid hpB
      have HPG := Lib.hid hpg
      clear hB hpB hpg
      go_wp2_with fail
      go_loopw [6] (fun i wr => ∃ (j : Nat) (Ao : Option Addr) (co : Nat), j ≤ M ∧ j ≤ 8 * mp ∧ i = .int .i64 j ∧ wr.heap[g]? = some (.cells #[.int .i64 15, .int .i64 (N : Int), .int .i64 0, .int .i64 0, .slice none 0 0, .slice Ao j co, .int .u16 0, .int .u16 0] 30 (0, 0)) ∧ wr.heap[w.heap.size]? = some (.cells #[.int .i64 0, .int .i64 0, .int .i64 0, .int .i64 0, .slice none 0 0, .slice none 0 0, .int .u16 0, .int .u16 0] 30 (0, 0)) ∧ wr.ownsRow B 4 1 (.slice Ao j co) j ((Word.bitsOf p j).map bitv) ∧ Below w.heap.size w wr ∧ B ≤ wr.heap.size ∧ Lies u8v wr Ap p) (fun i _ => 8 * mp - (intOf i).toNat)
      case atStart => exact ⟨0, none, 0, Nat.zero_le _, Nat.zero_le _, rfl, hrow2, hres2, World.ownsRow_nil _ _ _ _, hbw2, hBB, hlp⟩
      case round =>
        obtain ⟨j, Ao, co, hjM, hjm, rfl, hrowr, hresr, hown, hbr, hBr, hpr⟩ := hrel
        obtain ⟨z0, z1, z2, z3, z4, z5, z6, z7⟩ := row_eight hrowr
        have iw : IntKind.i64.wrap (8 * (mp : Int)) = 8 * (mp : Int) := by rw [IntKind.wrap_i64]; omega
        by_cases hlt : j < M ∧ j < 8 * mp
        · obtain ⟨hltM, hltm⟩ := hlt
          have i1 : (j : Int) < (M : Int) := by omega
          have i2 : (j : Int) < 8 * (mp : Int) := by omega
          have hq : j / 8 < p.length := by omega
          obtain ⟨b2, o2, hA2, hc1⟩ := hpr (j / 8) hq
          have HV : Hid (Word.bitAt p j = decide ((p[j / 8]).toNat / 2 ^ (j % 8) % 2 = 1)) := Lib.hid (by unfold Word.bitAt; rw [List.getD_eq_getElem?_getD, List.getElem?_eq_getElem hq, Option.getD_some])
          have hx8 := (p[j / 8]).toNat_lt
          have HS := Lib.hid (Word.bitsOf_succ' p j)
          have HPR := Lib.hid hpr
          unfold u8v at hc1
          generalize (p[j / 8]).toNat = y8 at hc1 HV hx8
          have hr8 : j % 8 < 8 := by omega
          have hj16 : j ≤ 160000 := by omega
          have hq' : (j : Int) / 8 < (mp : Int) := by omega
          have HO := Lib.hid hown
          clear hpr hq hown
          subst hA2
          go_wp2_with fail
          go_loop [7, 8] (fun cv kv => ∃ k : Nat, k ≤ j % 8 ∧ kv = .int .i64 k ∧ cv = .int .i64 ((y8 / 2 ^ k : Nat) : Int)) (fun _ kv => 8 - (intOf kv).toNat)
          case atStart => exact ⟨0, by omega, rfl, by rw [Nat.pow_zero, Nat.div_one]⟩
          case round =>
            obtain ⟨k, hk, rfl, rfl⟩ := hrel
            have HH := Lib.hid (half_pow y8 k)
            have hyx : y8 / 2 ^ k ≤ y8 := Nat.div_le_self _ _
            by_cases hlt2 : k < j % 8
            · have hlk : (k : Int) < (j : Int) % 8 := by omega
              generalize y8 / 2 ^ k = y at *
              go_wp2
              go_round
              case rel => exact ⟨k + 1, by omega, by simp, by rw [HH.out]; simp⟩
              case measure => simp [intOf]; omega
            · have hlk : ¬ ((k : Int) < (j : Int) % 8) := by omega
              obtain rfl : k = j % 8 := by omega
              have HN : Hid ([Value.bool (((y8 / 2 ^ (j % 8) : Nat) : Int) % 2 == 1)] = [Word.bitAt p j].map bitv) := Lib.hid (by rw [half_beq, ← HV.out]; rfl)
              clear HV HH
              generalize y8 / 2 ^ (j % 8) = y at *
              obtain ⟨Bt, hBt⟩ : ∃ Bt, ((y : Int) % 2 == 1) = Bt := ⟨_, rfl⟩
              rw [hBt] at HN
              have hba := (Below.refl B wr).alloc hBr (.cells #[.bool Bt] 4)
              have hrowa := row_later hrowr ((Below.refl _ wr).alloc (Nat.le_refl _) (.cells #[.bool Bt] 4))
              obtain ⟨za0, za1, za2, za3, za4, za5, za6, za7⟩ := row_eight hrowa
              go_wp2_with (at_builtin; go_must (refine wpList_append_lies kitb oneb _ rfl (.tmp 73) (.tmp 77) rfl B _ j (Word.bitsOf p j) rfl (own_below HO.out ((Below.refl _ wr).alloc (Nat.le_refl _) (.cells #[.bool Bt] 4))) (some ⟨wr.heap.size, 0, none⟩) 1 1 [Word.bitAt p j] rfl rfl (lies_new (f := bitv) wr #[.bool Bt] 4 [Word.bitAt p j] HN.out) (by omega) (by unfold maxLen; omega) (by simp; omega) ?_; intro A2 c2 w5 hown2 hg2 hb2; have hbw2 := hba.trans hb2; have hrow5 := (hbw2.block g hgB).trans hrowr; obtain ⟨zb0, zb1, zb2, zb3, zb4, zb5, zb6, zb7⟩ := row_eight hrow5; obtain ⟨zf0, zf1, zf2, zf3, zf4, zf5, zf6, zf7⟩ := row_eight_free hrow5))
              go_roundw
              case rel =>
                refine ⟨j + 1, A2, c2, by omega, by omega, by simp, by simpa using row_set hrow5 (i := 5) (.slice A2 (j + 1) c2), row_set_far ((hbw2.block _ (by omega)).trans hresr) hgne _, ?_, (hbr.trans (hbw2.mono (by omega))).setCell (p := ⟨g, 5, none⟩) hgw _, by have := hbw2.size; simp [World.setCell]; omega, lies_set (lies_low HPR.out HPB.out hbw2) HPG.out 5 _⟩
                rw [HS.out]
                exact own_set hown2 hgB _
              case measure => simp [intOf]; omega
        · obtain ⟨hoc, hom, hol, hoy⟩ := own_at hown
          have hin : Ak.guess b = ⟨15, N, 0, 0, [], Word.bitsOf p j, 0, 0⟩ := by rw [HG.out, hmp]; congr 2; omega
          have HIN := Lib.hid hin
          have hfo : ∀ b' o' s', Ao = some ⟨b', o', s'⟩ → 0 < (Word.bitsOf p j).length → b' ≠ w.heap.size := by
            intro b' o' s' e _
            subst e
            have := (hown.lt b' rfl).1
            omega
          have HFO := Lib.hid hfo
          have HFA : Hid (FarH w.heap.size (Ao, j, co)) := Lib.hid (fun b' o' s' e _ => by
            have e' : Ao = some ⟨b', o', s'⟩ := e
            subst e'
            have := (hown.lt b' rfl).1
            omega)
          obtain ⟨y0, y1, y2, y3, y4, y5, y6, y7⟩ := row_eight hresr
          obtain ⟨f0, f1, f2, f3, f4, f5, f6, f7⟩ := row_eight_free hresr
          clear hin hfo hpr hown HG
          by_cases hM2 : j < M
          · have i1 : (j : Int) < (M : Int) := by omega
            have i2 : ¬ (j : Int) < 8 * (mp : Int) := by omega
            go_wp2_with fail
            obtain ⟨r0, r1, r2, r3, r4, r5, r6, r7⟩ := row_eight (stored_eight hresr (.int .i64 15) (.int .i64 (N : Int)) (.int .i64 0) (.int .i64 0) (.slice none 0 0) (.slice Ao j co) (.int .u16 0) (.int .u16 0))
            refine bodyPost_ret_by (v := askV (Ak.guess b) (none, 0, 0) (Ao, j, co)) (by rw [HIN.out]; simp [askV, results, Tryz.f24, go_sem, r0, r1, r2, r3, r4, r5, r6, r7]) rfl ?_
            exact ⟨(none, 0, 0), (Ao, j, co), rfl, by rw [HIN.out]; exact ⟨rfl, Nat.le_refl _, Nat.zero_le _, Lies.nil _ _, hol, hoc, hom, lies_eight hoy HFO.out _ _ _ _ _ _ _ _⟩, below_eight hbr (Nat.le_refl _) _ _ _ _ _ _ _ _, FarH.none _ _ _, HFA.out⟩
          · have i1 : ¬ (j : Int) < (M : Int) := by omega
            go_wp2_with fail
            obtain ⟨r0, r1, r2, r3, r4, r5, r6, r7⟩ := row_eight (stored_eight hresr (.int .i64 15) (.int .i64 (N : Int)) (.int .i64 0) (.int .i64 0) (.slice none 0 0) (.slice Ao j co) (.int .u16 0) (.int .u16 0))
            refine bodyPost_ret_by (v := askV (Ak.guess b) (none, 0, 0) (Ao, j, co)) (by rw [HIN.out]; simp [askV, results, Tryz.f24, go_sem, r0, r1, r2, r3, r4, r5, r6, r7]) rfl ?_
            exact ⟨(none, 0, 0), (Ao, j, co), rfl, by rw [HIN.out]; exact ⟨rfl, Nat.le_refl _, Nat.zero_le _, Lies.nil _ _, hol, hoc, hom, lies_eight hoy HFO.out _ _ _ _ _ _ _ _⟩, below_eight hbr (Nat.le_refl _) _ _ _ _ _ _ _ _, FarH.none _ _ _, HFA.out⟩
    by_cases e16 : x.toNat = 16
    · have XC : (x.toNat : Int) = 16 := by rw [e16]; rfl
      have HG : Hid (Ak.guess b = ⟨16, N, 0, 0, Word.ansWords (b.drop 6), [], 0, 0⟩) := Lib.hid (by unfold Ak.guess; rw [HX.out.1, HX.out.2]; simp [Ak.zero, e16])
      rw [XC] at hrow ⊢
      obtain ⟨z0, z1, z2, z3, z4, z5, z6, z7⟩ := row_eight hrow
      obtain ⟨v0, v1, v2, v3, v4, v5, v6, v7⟩ := row_eight_free hrow
      obtain ⟨y0, y1, y2, y3, y4, y5, y6, y7⟩ := row_eight hres
      obtain ⟨f0, f1, f2, f3, f4, f5, f6, f7⟩ := row_eight_free hres
      go_wp2_with fail
      refine (rbehind_any _ n c 6 b hn hnc hcm (by omega) _ hL).mono ?_
      rintro e wx2 ⟨Ap, mp, cp, rfl, hmp, hmc, hcp, hlp, hwx2⟩
      rw [hwx2]
      clear hwx2
      go_wp2_with fail
      refine (rwords_any Ap mp cp (b.drop 6) hmp (by have := hmp; rw [List.length_drop] at this; omega) _ hlp).mono ?_
      rintro e w3 ⟨Aq, nq, cq, rfl, hnq, hcq, hmq, hlq, hb3, hfr3⟩
      have hgl3 := row_lt hrow
      have hfq : ∀ b' o' s', Aq = some ⟨b', o', s'⟩ → 0 < nq → g < b' := fun b' o' s' e h0 => by have := hfr3 b' o' s' e h0; omega
      have hrow3 := row_later hrow hb3
      have hres3 := row_later hres hb3
      have hbw3 := hbW.trans (Below.mono hb3 hbW.size)
      have hL3 := hL.below hb3 (Nat.le_refl _)
      obtain ⟨z0, z1, z2, z3, z4, z5, z6, z7⟩ := row_eight hrow3
      obtain ⟨v0, v1, v2, v3, v4, v5, v6, v7⟩ := row_eight_free hrow3
      obtain ⟨y0, y1, y2, y3, y4, y5, y6, y7⟩ := row_eight hres3
      obtain ⟨f0, f1, f2, f3, f4, f5, f6, f7⟩ := row_eight_free hres3
      have hrow4 : (World.setCell (w3) ⟨g, 4, none⟩ (.slice Aq nq cq)).heap[g]? = some (.cells #[.int .i64 16, .int .i64 (N : Int), .int .i64 0, .int .i64 0, .slice Aq nq cq, .slice none 0 0, .int .u16 0, .int .u16 0] 30 (0, 0)) := by simpa using row_set hrow3 (i := 4) (.slice Aq nq cq)
      have hres4 := row_set_far (i := 4) hres3 hgne (.slice Aq nq cq)
      have hbw4 := hbw3.setCell (p := ⟨g, 4, none⟩) hgw (.slice Aq nq cq)
      have hL4 := lies_set hL3 (fun b' o' s' e _ => by cases e; exact hb1g) 4 (.slice Aq nq cq)
      obtain ⟨zz0, zz1, zz2, zz3, zz4, zz5, zz6, zz7⟩ := row_eight hrow4
      obtain ⟨vv0, vv1, vv2, vv3, vv4, vv5, vv6, vv7⟩ := row_eight_free hrow4
      obtain ⟨yy0, yy1, yy2, yy3, yy4, yy5, yy6, yy7⟩ := row_eight hres4
      obtain ⟨ff0, ff1, ff2, ff3, ff4, ff5, ff6, ff7⟩ := row_eight_free hres4
      go_wp2_with fail
      obtain ⟨r0, r1, r2, r3, r4, r5, r6, r7⟩ := row_eight (stored_eight hres4 (.int .i64 16) (.int .i64 (N : Int)) (.int .i64 0) (.int .i64 0) (.slice Aq nq cq) (.slice none 0 0) (.int .u16 0) (.int .u16 0))
      refine bodyPost_ret_by (v := askV (Ak.guess b) (Aq, nq, cq) (none, 0, 0)) (by rw [HG.out]; simp [askV, results, Tryz.f24, go_sem, r0, r1, r2, r3, r4, r5, r6, r7]) rfl ?_
      exact ⟨(Aq, nq, cq), (none, 0, 0), rfl, by rw [HG.out]; exact ⟨hnq, hcq, hmq, lies_eight (lies_set hlq (fun b' o' s' e h0 => by have := hfq b' o' s' e (by omega); omega) _ _) (fun b' o' s' e h0 => by have := hfq b' o' s' e (by omega); omega) _ _ _ _ _ _ _ _, rfl, Nat.le_refl _, Nat.zero_le _, Lies.nil _ _⟩, below_eight hbw4 (Nat.le_refl _) _ _ _ _ _ _ _ _, (fun b' o' s' e h0 => by have := hfq b' o' s' e h0; omega), FarH.none _ _ _⟩
    by_cases e22 : x.toNat = 22
    · have XC : (x.toNat : Int) = 22 := by rw [e22]; rfl
      obtain ⟨U, -, hU2, hU3⟩ := u16_of M hMl
      obtain ⟨V, -, hV2, hV3⟩ := u16_of M5 hM5l
      have HG : Hid (Ak.guess b = ⟨22, N, 0, 0, [], [], U, V⟩) := Lib.hid (by unfold Ak.guess; rw [HX.out.1, HX.out.2]; simp [Ak.zero, e22, HM.out, HM5.out, hU2, hV2])
      rw [XC] at hrow ⊢
      obtain ⟨z0, z1, z2, z3, z4, z5, z6, z7⟩ := row_eight hrow
      obtain ⟨v0, v1, v2, v3, v4, v5, v6, v7⟩ := row_eight_free hrow
      obtain ⟨y0, y1, y2, y3, y4, y5, y6, y7⟩ := row_eight hres
      obtain ⟨f0, f1, f2, f3, f4, f5, f6, f7⟩ := row_eight_free hres
      go_wp2_with fail
      refine (hnum3 _ hL).mono ?_
      rintro e w2 ⟨rfl, hb2⟩
      have hrow2 := row_later hrow hb2
      have hres2 := row_later hres hb2
      have hbw2 := hbW.trans (Below.mono hb2 hbW.size)
      have hL2 := hL.below hb2 (Nat.le_refl _)
      rw [HM.out]
      obtain ⟨z0, z1, z2, z3, z4, z5, z6, z7⟩ := row_eight hrow2
      obtain ⟨v0, v1, v2, v3, v4, v5, v6, v7⟩ := row_eight_free hrow2
      obtain ⟨y0, y1, y2, y3, y4, y5, y6, y7⟩ := row_eight hres2
      obtain ⟨f0, f1, f2, f3, f4, f5, f6, f7⟩ := row_eight_free hres2
      have hrow3 : (World.setCell (w2) ⟨g, 6, none⟩ (.int .u16 (U.toNat : Int))).heap[g]? = some (.cells #[.int .i64 22, .int .i64 (N : Int), .int .i64 0, .int .i64 0, .slice none 0 0, .slice none 0 0, .int .u16 (U.toNat : Int), .int .u16 0] 30 (0, 0)) := by simpa using row_set hrow2 (i := 6) (.int .u16 (U.toNat : Int))
      have hres3 := row_set_far (i := 6) hres2 hgne (.int .u16 (U.toNat : Int))
      have hbw3 := hbw2.setCell (p := ⟨g, 6, none⟩) hgw (.int .u16 (U.toNat : Int))
      have hL3 := lies_set hL2 (fun b' o' s' e _ => by cases e; exact hb1g) 6 (.int .u16 (U.toNat : Int))
      obtain ⟨z0, z1, z2, z3, z4, z5, z6, z7⟩ := row_eight hrow3
      obtain ⟨v0, v1, v2, v3, v4, v5, v6, v7⟩ := row_eight_free hrow3
      obtain ⟨y0, y1, y2, y3, y4, y5, y6, y7⟩ := row_eight hres3
      obtain ⟨f0, f1, f2, f3, f4, f5, f6, f7⟩ := row_eight_free hres3
      go_wp2_with fail
      refine (hnum5 _ hL3).mono ?_
      rintro e w4 ⟨rfl, hb4⟩
      have hrow4 := row_later hrow3 hb4
      have hres4 := row_later hres3 hb4
      have hbw4 := hbw3.trans (Below.mono hb4 hbw3.size)
      have hL4 := hL3.below hb4 (Nat.le_refl _)
      rw [HM5.out]
      obtain ⟨z0, z1, z2, z3, z4, z5, z6, z7⟩ := row_eight hrow4
      obtain ⟨v0, v1, v2, v3, v4, v5, v6, v7⟩ := row_eight_free hrow4
      obtain ⟨y0, y1, y2, y3, y4, y5, y6, y7⟩ := row_eight hres4
      obtain ⟨f0, f1, f2, f3, f4, f5, f6, f7⟩ := row_eight_free hres4
      have hrow5 : (World.setCell (w4) ⟨g, 7, none⟩ (.int .u16 (V.toNat : Int))).heap[g]? = some (.cells #[.int .i64 22, .int .i64 (N : Int), .int .i64 0, .int .i64 0, .slice none 0 0, .slice none 0 0, .int .u16 (U.toNat : Int), .int .u16 (V.toNat : Int)] 30 (0, 0)) := by simpa using row_set hrow4 (i := 7) (.int .u16 (V.toNat : Int))
      have hres5 := row_set_far (i := 7) hres4 hgne (.int .u16 (V.toNat : Int))
      have hbw5 := hbw4.setCell (p := ⟨g, 7, none⟩) hgw (.int .u16 (V.toNat : Int))
      have hL5 := lies_set hL4 (fun b' o' s' e _ => by cases e; exact hb1g) 7 (.int .u16 (V.toNat : Int))
      obtain ⟨zz0, zz1, zz2, zz3, zz4, zz5, zz6, zz7⟩ := row_eight hrow5
      obtain ⟨vv0, vv1, vv2, vv3, vv4, vv5, vv6, vv7⟩ := row_eight_free hrow5
      obtain ⟨yy0, yy1, yy2, yy3, yy4, yy5, yy6, yy7⟩ := row_eight hres5
      obtain ⟨ff0, ff1, ff2, ff3, ff4, ff5, ff6, ff7⟩ := row_eight_free hres5
      go_wp2_with fail
      obtain ⟨r0, r1, r2, r3, r4, r5, r6, r7⟩ := row_eight (stored_eight hres5 (.int .i64 22) (.int .i64 (N : Int)) (.int .i64 0) (.int .i64 0) (.slice none 0 0) (.slice none 0 0) (.int .u16 (U.toNat : Int)) (.int .u16 (V.toNat : Int)))
      refine bodyPost_ret_by (v := askV (Ak.guess b) (none, 0, 0) (none, 0, 0)) (by rw [HG.out]; simp [askV, results, Tryz.f24, go_sem, r0, r1, r2, r3, r4, r5, r6, r7]) rfl ?_
      exact ⟨(none, 0, 0), (none, 0, 0), rfl, by rw [HG.out]; exact ⟨rfl, Nat.le_refl _, Nat.zero_le _, Lies.nil _ _, rfl, Nat.le_refl _, Nat.zero_le _, Lies.nil _ _⟩, below_eight hbw5 (Nat.le_refl _) _ _ _ _ _ _ _ _, FarH.none _ _ _, FarH.none _ _ _⟩
    by_cases e23 : x.toNat = 23
    · have XC : (x.toNat : Int) = 23 := by rw [e23]; rfl
      have HG : Hid (Ak.guess b = ⟨23, N, M, M5, Word.ansWords (b.drop 10), [], 0, 0⟩) := Lib.hid (by unfold Ak.guess; rw [HX.out.1, HX.out.2]; simp [Ak.zero, e23, HM.out, HM5.out])
      rw [XC] at hrow ⊢
      obtain ⟨z0, z1, z2, z3, z4, z5, z6, z7⟩ := row_eight hrow
      obtain ⟨v0, v1, v2, v3, v4, v5, v6, v7⟩ := row_eight_free hrow
      obtain ⟨y0, y1, y2, y3, y4, y5, y6, y7⟩ := row_eight hres
      obtain ⟨f0, f1, f2, f3, f4, f5, f6, f7⟩ := row_eight_free hres
      go_wp2_with fail
      refine (hnum3 _ hL).mono ?_
      rintro e w2 ⟨rfl, hb2⟩
      have hrow2 := row_later hrow hb2
      have hres2 := row_later hres hb2
      have hbw2 := hbW.trans (Below.mono hb2 hbW.size)
      have hL2 := hL.below hb2 (Nat.le_refl _)
      rw [HM.out]
      obtain ⟨z0, z1, z2, z3, z4, z5, z6, z7⟩ := row_eight hrow2
      obtain ⟨v0, v1, v2, v3, v4, v5, v6, v7⟩ := row_eight_free hrow2
      obtain ⟨y0, y1, y2, y3, y4, y5, y6, y7⟩ := row_eight hres2
      obtain ⟨f0, f1, f2, f3, f4, f5, f6, f7⟩ := row_eight_free hres2
      have hrow3 : (World.setCell (w2) ⟨g, 2, none⟩ (.int .i64 (M : Int))).heap[g]? = some (.cells #[.int .i64 23, .int .i64 (N : Int), .int .i64 (M : Int), .int .i64 0, .slice none 0 0, .slice none 0 0, .int .u16 0, .int .u16 0] 30 (0, 0)) := by simpa using row_set hrow2 (i := 2) (.int .i64 (M : Int))
      have hres3 := row_set_far (i := 2) hres2 hgne (.int .i64 (M : Int))
      have hbw3 := hbw2.setCell (p := ⟨g, 2, none⟩) hgw (.int .i64 (M : Int))
      have hL3 := lies_set hL2 (fun b' o' s' e _ => by cases e; exact hb1g) 2 (.int .i64 (M : Int))
      obtain ⟨z0, z1, z2, z3, z4, z5, z6, z7⟩ := row_eight hrow3
      obtain ⟨v0, v1, v2, v3, v4, v5, v6, v7⟩ := row_eight_free hrow3
      obtain ⟨y0, y1, y2, y3, y4, y5, y6, y7⟩ := row_eight hres3
      obtain ⟨f0, f1, f2, f3, f4, f5, f6, f7⟩ := row_eight_free hres3
      go_wp2_with fail
      refine (hnum5 _ hL3).mono ?_
      rintro e w4 ⟨rfl, hb4⟩
      have hrow4 := row_later hrow3 hb4
      have hres4 := row_later hres3 hb4
      have hbw4 := hbw3.trans (Below.mono hb4 hbw3.size)
      have hL4 := hL3.below hb4 (Nat.le_refl _)
      rw [HM5.out]
      obtain ⟨z0, z1, z2, z3, z4, z5, z6, z7⟩ := row_eight hrow4
      obtain ⟨v0, v1, v2, v3, v4, v5, v6, v7⟩ := row_eight_free hrow4
      obtain ⟨y0, y1, y2, y3, y4, y5, y6, y7⟩ := row_eight hres4
      obtain ⟨f0, f1, f2, f3, f4, f5, f6, f7⟩ := row_eight_free hres4
      have hrow5 : (World.setCell (w4) ⟨g, 3, none⟩ (.int .i64 (M5 : Int))).heap[g]? = some (.cells #[.int .i64 23, .int .i64 (N : Int), .int .i64 (M : Int), .int .i64 (M5 : Int), .slice none 0 0, .slice none 0 0, .int .u16 0, .int .u16 0] 30 (0, 0)) := by simpa using row_set hrow4 (i := 3) (.int .i64 (M5 : Int))
      have hres5 := row_set_far (i := 3) hres4 hgne (.int .i64 (M5 : Int))
      have hbw5 := hbw4.setCell (p := ⟨g, 3, none⟩) hgw (.int .i64 (M5 : Int))
      have hL5 := lies_set hL4 (fun b' o' s' e _ => by cases e; exact hb1g) 3 (.int .i64 (M5 : Int))
      obtain ⟨z0, z1, z2, z3, z4, z5, z6, z7⟩ := row_eight hrow5
      obtain ⟨v0, v1, v2, v3, v4, v5, v6, v7⟩ := row_eight_free hrow5
      obtain ⟨y0, y1, y2, y3, y4, y5, y6, y7⟩ := row_eight hres5
      obtain ⟨f0, f1, f2, f3, f4, f5, f6, f7⟩ := row_eight_free hres5
      go_wp2_with fail
      refine (rbehind_any _ n c 10 b hn hnc hcm (by omega) _ hL5).mono ?_
      rintro e wx6 ⟨Ap, mp, cp, rfl, hmp, hmc, hcp, hlp, hwx6⟩
      rw [hwx6]
      clear hwx6
      go_wp2_with fail
      refine (rwords_any Ap mp cp (b.drop 10) hmp (by have := hmp; rw [List.length_drop] at this; omega) _ hlp).mono ?_
      rintro e w7 ⟨Aq, nq, cq, rfl, hnq, hcq, hmq, hlq, hb7, hfr7⟩
      have hgl7 := row_lt hrow5
      have hfq : ∀ b' o' s', Aq = some ⟨b', o', s'⟩ → 0 < nq → g < b' := fun b' o' s' e h0 => by have := hfr7 b' o' s' e h0; omega
      have hrow7 := row_later hrow5 hb7
      have hres7 := row_later hres5 hb7
      have hbw7 := hbw5.trans (Below.mono hb7 hbw5.size)
      have hL7 := hL5.below hb7 (Nat.le_refl _)
      obtain ⟨z0, z1, z2, z3, z4, z5, z6, z7⟩ := row_eight hrow7
      obtain ⟨v0, v1, v2, v3, v4, v5, v6, v7⟩ := row_eight_free hrow7
      obtain ⟨y0, y1, y2, y3, y4, y5, y6, y7⟩ := row_eight hres7
      obtain ⟨f0, f1, f2, f3, f4, f5, f6, f7⟩ := row_eight_free hres7
      have hrow8 : (World.setCell (w7) ⟨g, 4, none⟩ (.slice Aq nq cq)).heap[g]? = some (.cells #[.int .i64 23, .int .i64 (N : Int), .int .i64 (M : Int), .int .i64 (M5 : Int), .slice Aq nq cq, .slice none 0 0, .int .u16 0, .int .u16 0] 30 (0, 0)) := by simpa using row_set hrow7 (i := 4) (.slice Aq nq cq)
      have hres8 := row_set_far (i := 4) hres7 hgne (.slice Aq nq cq)
      have hbw8 := hbw7.setCell (p := ⟨g, 4, none⟩) hgw (.slice Aq nq cq)
      have hL8 := lies_set hL7 (fun b' o' s' e _ => by cases e; exact hb1g) 4 (.slice Aq nq cq)
      obtain ⟨zz0, zz1, zz2, zz3, zz4, zz5, zz6, zz7⟩ := row_eight hrow8
      obtain ⟨vv0, vv1, vv2, vv3, vv4, vv5, vv6, vv7⟩ := row_eight_free hrow8
      obtain ⟨yy0, yy1, yy2, yy3, yy4, yy5, yy6, yy7⟩ := row_eight hres8
      obtain ⟨ff0, ff1, ff2, ff3, ff4, ff5, ff6, ff7⟩ := row_eight_free hres8
      go_wp2_with fail
      obtain ⟨r0, r1, r2, r3, r4, r5, r6, r7⟩ := row_eight (stored_eight hres8 (.int .i64 23) (.int .i64 (N : Int)) (.int .i64 (M : Int)) (.int .i64 (M5 : Int)) (.slice Aq nq cq) (.slice none 0 0) (.int .u16 0) (.int .u16 0))
      refine bodyPost_ret_by (v := askV (Ak.guess b) (Aq, nq, cq) (none, 0, 0)) (by rw [HG.out]; simp [askV, results, Tryz.f24, go_sem, r0, r1, r2, r3, r4, r5, r6, r7]) rfl ?_
      exact ⟨(Aq, nq, cq), (none, 0, 0), rfl, by rw [HG.out]; exact ⟨hnq, hcq, hmq, lies_eight (lies_set hlq (fun b' o' s' e h0 => by have := hfq b' o' s' e (by omega); omega) _ _) (fun b' o' s' e h0 => by have := hfq b' o' s' e (by omega); omega) _ _ _ _ _ _ _ _, rfl, Nat.le_refl _, Nat.zero_le _, Lies.nil _ _⟩, below_eight hbw8 (Nat.le_refl _) _ _ _ _ _ _ _ _, (fun b' o' s' e h0 => by have := hfq b' o' s' e h0; omega), FarH.none _ _ _⟩
    by_cases e43 : x.toNat = 43
    · have XC : (x.toNat : Int) = 43 := by rw [e43]; rfl
      by_cases h4 : n = 4
      · rw [XC] at hrow ⊢
        have HG : Hid (Ak.guess b = ⟨43, ((b.getD 3 0).toNat : Int), ((b.getD 2 0).toNat : Int), 0, [], [], 0, 0⟩) := Lib.hid (by unfold Ak.guess; rw [HX.out.1, HX.out.2]; simp [Ak.zero, e43, hn, h4])
        subst h4
        have i2 : (2 : Int) < 4 := by omega
        have i3 : (3 : Int) < 4 := by omega
        have q2 := hL.row 2 (by omega)
        have q3 := hL.row 3 (by omega)
        have g2 : b[2]'(by omega) = b.getD 2 0 := by rw [List.getD_eq_getElem?_getD, List.getElem?_eq_getElem (by omega)]; rfl
        have g3 : b[3]'(by omega) = b.getD 3 0 := by rw [List.getD_eq_getElem?_getD, List.getElem?_eq_getElem (by omega)]; rfl
        rw [g2] at q2
        rw [g3] at q3
        generalize b.getD 2 0 = x2 at *
        generalize b.getD 3 0 = x3 at *
        have hw2 : IntKind.i64.wrap (x2.toNat : Int) = (x2.toNat : Int) := by have := x2.toNat_lt; rw [IntKind.wrap_i64]; omega
        have hw3 : IntKind.i64.wrap (x3.toNat : Int) = (x3.toNat : Int) := by have := x3.toNat_lt; rw [IntKind.wrap_i64]; omega
        obtain ⟨z0, z1, z2, z3, z4, z5, z6, z7⟩ := row_eight hrow
        obtain ⟨v0, v1, v2, v3, v4, v5, v6, v7⟩ := row_eight_free hrow
        obtain ⟨y0, y1, y2, y3, y4, y5, y6, y7⟩ := row_eight hres
        obtain ⟨f0, f1, f2, f3, f4, f5, f6, f7⟩ := row_eight_free hres
        have hrow2 : (World.setCell (W) ⟨g, 1, none⟩ (.int .i64 0)).heap[g]? = some (.cells #[.int .i64 43, .int .i64 0, .int .i64 0, .int .i64 0, .slice none 0 0, .slice none 0 0, .int .u16 0, .int .u16 0] 30 (0, 0)) := by simpa using row_set hrow (i := 1) (.int .i64 0)
        have hres2 := row_set_far (i := 1) hres hgne (.int .i64 0)
        have hbw2 := hbW.setCell (p := ⟨g, 1, none⟩) hgw (.int .i64 0)
        have hL2 := lies_set hL (fun b' o' s' e _ => by cases e; exact hb1g) 1 (.int .i64 0)
        have q2a := (cell_far (o := o1 + 2) (k := 1) hb1g (.int .i64 0)).trans q2
        obtain ⟨z0, z1, z2, z3, z4, z5, z6, z7⟩ := row_eight hrow2
        obtain ⟨v0, v1, v2, v3, v4, v5, v6, v7⟩ := row_eight_free hrow2
        obtain ⟨y0, y1, y2, y3, y4, y5, y6, y7⟩ := row_eight hres2
        obtain ⟨f0, f1, f2, f3, f4, f5, f6, f7⟩ := row_eight_free hres2
        have hrow3 : (World.setCell (World.setCell (W) ⟨g, 1, none⟩ (.int .i64 0)) ⟨g, 2, none⟩ (.int .i64 (x2.toNat : Int))).heap[g]? = some (.cells #[.int .i64 43, .int .i64 0, .int .i64 (x2.toNat : Int), .int .i64 0, .slice none 0 0, .slice none 0 0, .int .u16 0, .int .u16 0] 30 (0, 0)) := by simpa using row_set hrow2 (i := 2) (.int .i64 (x2.toNat : Int))
        have hres3 := row_set_far (i := 2) hres2 hgne (.int .i64 (x2.toNat : Int))
        have hbw3 := hbw2.setCell (p := ⟨g, 2, none⟩) hgw (.int .i64 (x2.toNat : Int))
        have hL3 := lies_set hL2 (fun b' o' s' e _ => by cases e; exact hb1g) 2 (.int .i64 (x2.toNat : Int))
        have q3b := (cell_far (w := World.setCell W ⟨g, 1, none⟩ (.int .i64 0)) (o := o1 + 3) (k := 2) hb1g (.int .i64 (x2.toNat : Int))).trans ((cell_far (o := o1 + 3) (k := 1) hb1g (.int .i64 0)).trans q3)
        obtain ⟨z0, z1, z2, z3, z4, z5, z6, z7⟩ := row_eight hrow3
        obtain ⟨v0, v1, v2, v3, v4, v5, v6, v7⟩ := row_eight_free hrow3
        obtain ⟨y0, y1, y2, y3, y4, y5, y6, y7⟩ := row_eight hres3
        obtain ⟨f0, f1, f2, f3, f4, f5, f6, f7⟩ := row_eight_free hres3
        have hrow4 : (World.setCell (World.setCell (World.setCell (W) ⟨g, 1, none⟩ (.int .i64 0)) ⟨g, 2, none⟩ (.int .i64 (x2.toNat : Int))) ⟨g, 1, none⟩ (.int .i64 (x3.toNat : Int))).heap[g]? = some (.cells #[.int .i64 43, .int .i64 (x3.toNat : Int), .int .i64 (x2.toNat : Int), .int .i64 0, .slice none 0 0, .slice none 0 0, .int .u16 0, .int .u16 0] 30 (0, 0)) := by simpa using row_set hrow3 (i := 1) (.int .i64 (x3.toNat : Int))
        have hres4 := row_set_far (i := 1) hres3 hgne (.int .i64 (x3.toNat : Int))
        have hbw4 := hbw3.setCell (p := ⟨g, 1, none⟩) hgw (.int .i64 (x3.toNat : Int))
        have hL4 := lies_set hL3 (fun b' o' s' e _ => by cases e; exact hb1g) 1 (.int .i64 (x3.toNat : Int))
        have hb1s := row_lt hrow
        obtain ⟨zz0, zz1, zz2, zz3, zz4, zz5, zz6, zz7⟩ := row_eight hrow4
        obtain ⟨vv0, vv1, vv2, vv3, vv4, vv5, vv6, vv7⟩ := row_eight_free hrow4
        obtain ⟨yy0, yy1, yy2, yy3, yy4, yy5, yy6, yy7⟩ := row_eight hres4
        obtain ⟨ff0, ff1, ff2, ff3, ff4, ff5, ff6, ff7⟩ := row_eight_free hres4
        go_wp2_with fail
        obtain ⟨r0, r1, r2, r3, r4, r5, r6, r7⟩ := row_eight (stored_eight hres4 (.int .i64 43) (.int .i64 (x3.toNat : Int)) (.int .i64 (x2.toNat : Int)) (.int .i64 0) (.slice none 0 0) (.slice none 0 0) (.int .u16 0) (.int .u16 0))
        refine bodyPost_ret_by (v := askV (Ak.guess b) (none, 0, 0) (none, 0, 0)) (by rw [HG.out]; simp [askV, results, Tryz.f24, go_sem, r0, r1, r2, r3, r4, r5, r6, r7]) rfl ?_
        exact ⟨(none, 0, 0), (none, 0, 0), rfl, by rw [HG.out]; exact ⟨rfl, Nat.le_refl _, Nat.zero_le _, Lies.nil _ _, rfl, Nat.le_refl _, Nat.zero_le _, Lies.nil _ _⟩, below_eight hbw4 (Nat.le_refl _) _ _ _ _ _ _ _ _, FarH.none _ _ _, FarH.none _ _ _⟩
      · rw [XC] at hrow ⊢
        have HG : Hid (Ak.guess b = ⟨43, 0, 0, 0, [], [], 0, 0⟩) := Lib.hid (by unfold Ak.guess; rw [HX.out.1, HX.out.2]; simp [Ak.zero, e43, hn, h4])
        have i4 : ((n : Int) == 4) = false := by rw [beq_eq_false_iff_ne]; omega
        obtain ⟨z0, z1, z2, z3, z4, z5, z6, z7⟩ := row_eight hrow
        obtain ⟨v0, v1, v2, v3, v4, v5, v6, v7⟩ := row_eight_free hrow
        obtain ⟨y0, y1, y2, y3, y4, y5, y6, y7⟩ := row_eight hres
        obtain ⟨f0, f1, f2, f3, f4, f5, f6, f7⟩ := row_eight_free hres
        have hrow2 : (World.setCell (W) ⟨g, 1, none⟩ (.int .i64 0)).heap[g]? = some (.cells #[.int .i64 43, .int .i64 0, .int .i64 0, .int .i64 0, .slice none 0 0, .slice none 0 0, .int .u16 0, .int .u16 0] 30 (0, 0)) := by simpa using row_set hrow (i := 1) (.int .i64 0)
        have hres2 := row_set_far (i := 1) hres hgne (.int .i64 0)
        have hbw2 := hbW.setCell (p := ⟨g, 1, none⟩) hgw (.int .i64 0)
        have hL2 := lies_set hL (fun b' o' s' e _ => by cases e; exact hb1g) 1 (.int .i64 0)
        obtain ⟨zz0, zz1, zz2, zz3, zz4, zz5, zz6, zz7⟩ := row_eight hrow2
        obtain ⟨vv0, vv1, vv2, vv3, vv4, vv5, vv6, vv7⟩ := row_eight_free hrow2
        obtain ⟨yy0, yy1, yy2, yy3, yy4, yy5, yy6, yy7⟩ := row_eight hres2
        obtain ⟨ff0, ff1, ff2, ff3, ff4, ff5, ff6, ff7⟩ := row_eight_free hres2
        go_wp2_with fail
        obtain ⟨r0, r1, r2, r3, r4, r5, r6, r7⟩ := row_eight (stored_eight hres2 (.int .i64 43) (.int .i64 0) (.int .i64 0) (.int .i64 0) (.slice none 0 0) (.slice none 0 0) (.int .u16 0) (.int .u16 0))
        refine bodyPost_ret_by (v := askV (Ak.guess b) (none, 0, 0) (none, 0, 0)) (by rw [HG.out]; simp [askV, results, Tryz.f24, go_sem, r0, r1, r2, r3, r4, r5, r6, r7]) rfl ?_
        exact ⟨(none, 0, 0), (none, 0, 0), rfl, by rw [HG.out]; exact ⟨rfl, Nat.le_refl _, Nat.zero_le _, Lies.nil _ _, rfl, Nat.le_refl _, Nat.zero_le _, Lies.nil _ _⟩, below_eight hbw2 (Nat.le_refl _) _ _ _ _ _ _ _ _, FarH.none _ _ _, FarH.none _ _ _⟩
    have HG : Hid (Ak.guess b = ⟨x.toNat, N, 0, 0, [], [], 0, 0⟩) := Lib.hid (by unfold Ak.guess; rw [HX.out.1, HX.out.2]; simp only [Ak.zero]; rw [if_neg (by omega), if_neg (by omega), if_neg (by omega), if_neg (by omega), if_neg (by omega), if_neg (by omega), if_neg (by omega), if_neg (by omega)])
    have oc1 : ((x.toNat : Int) == 1) = false := by rw [beq_eq_false_iff_ne]; omega
    have oc2 : ((x.toNat : Int) == 2) = false := by rw [beq_eq_false_iff_ne]; omega
    have oc3 : ((x.toNat : Int) == 3) = false := by rw [beq_eq_false_iff_ne]; omega
    have oc4 : ((x.toNat : Int) == 4) = false := by rw [beq_eq_false_iff_ne]; omega
    have oc5 : ((x.toNat : Int) == 5) = false := by rw [beq_eq_false_iff_ne]; omega
    have oc6 : ((x.toNat : Int) == 6) = false := by rw [beq_eq_false_iff_ne]; omega
    have oc15 : ((x.toNat : Int) == 15) = false := by rw [beq_eq_false_iff_ne]; omega
    have oc16 : ((x.toNat : Int) == 16) = false := by rw [beq_eq_false_iff_ne]; omega
    have oc22 : ((x.toNat : Int) == 22) = false := by rw [beq_eq_false_iff_ne]; omega
    have oc23 : ((x.toNat : Int) == 23) = false := by rw [beq_eq_false_iff_ne]; omega
    have oc43 : ((x.toNat : Int) == 43) = false := by rw [beq_eq_false_iff_ne]; omega
    obtain ⟨z0, z1, z2, z3, z4, z5, z6, z7⟩ := row_eight hrow
    obtain ⟨y0, y1, y2, y3, y4, y5, y6, y7⟩ := row_eight hres
    obtain ⟨f0, f1, f2, f3, f4, f5, f6, f7⟩ := row_eight_free hres
    go_wp2_with fail
    obtain ⟨r0, r1, r2, r3, r4, r5, r6, r7⟩ := row_eight (stored_eight hres (.int .i64 (x.toNat : Int)) (.int .i64 (N : Int)) (.int .i64 0) (.int .i64 0) (.slice none 0 0) (.slice none 0 0) (.int .u16 0) (.int .u16 0))
    refine bodyPost_ret_by (v := askV (Ak.guess b) (none, 0, 0) (none, 0, 0)) (by rw [HG.out]; simp [askV, results, Tryz.f24, go_sem, r0, r1, r2, r3, r4, r5, r6, r7]) rfl ?_
    exact ⟨(none, 0, 0), (none, 0, 0), rfl, by rw [HG.out]; exact ⟨rfl, Nat.le_refl _, Nat.zero_le _, Lies.nil _ _, rfl, Nat.le_refl _, Nat.zero_le _, Lies.nil _ _⟩, (below_eight hbW (Nat.le_refl _) _ _ _ _ _ _ _ _), FarH.none _ _ _, FarH.none _ _ _⟩)
  clear hKK
  have hi0 : 0 < n := h0
  have hb1lt : b1 < W0.heap.size := Nat.lt_of_lt_of_le hlt1 hlt2
  have HA : Hid (∀ (W : World) (O : Obj), W.cell? ⟨b1, o1, none⟩ = some (u8v x) → (W.alloc O).cell? ⟨b1, o1, none⟩ = some (u8v x)) := Lib.hid (fun W O h => cell_later ((Below.refl _ _).alloc (Nat.le_refl _) O) h)
  have HD : Hid (∀ (W : World) (O : Obj), W.drew.cell? ⟨b1, o1, none⟩ = some (u8v x) → (W.alloc O).drew.cell? ⟨b1, o1, none⟩ = some (u8v x)) := Lib.hid (fun W O h => HA.out W O h)
  have HN : Hid (∀ (W : World) (O : Obj) (q : Nat), (W.drewN q).cell? ⟨b1, o1, none⟩ = some (u8v x) → ((W.alloc O).drewN q).cell? ⟨b1, o1, none⟩ = some (u8v x)) := Lib.hid (fun W O q h => HA.out W O h)
  have HQ : Hid (∀ (W : World) (q : Nat), W.cell? ⟨b1, o1, none⟩ = some (u8v x) → (W.drewN q).cell? ⟨b1, o1, none⟩ = some (u8v x)) := Lib.hid (fun W q h => h)
  have hS0 : W0.drew.cell? ⟨b1, o1, none⟩ = some (u8v x) := hc0'
  clear hc0
  have hwx : IntKind.i64.wrap (x.toNat : Int) = (x.toNat : Int) := by have := x.toNat_lt; rw [IntKind.wrap_i64]; omega
  have hnum1 : ∀ W : World, Lies u8v W (some ⟨b1, o1, none⟩) b → Calls Tryz.prog 63 #[.slice (some ⟨b1, o1, none⟩) n c, .int .i64 1] W fun e w' => e = .returned (.int .i64 ((Ak.num b 1 : Nat) : Int)) ∧ ∃ q, w' = W.drewN q := fun W h => rnumber_any _ n c 1 b hn (by omega) (by omega) W h
  have hLd : Lies u8v W0.drew (some ⟨b1, o1, none⟩) b := (HB.out.below hbw (Nat.le_refl _)).drew
  have hLa : Lies u8v (W0.alloc (.cells #[.int .i64 0, .int .i64 0, .int .i64 0, .int .i64 0, .slice none 0 0, .slice none 0 0, .int .u16 0, .int .u16 0] 30)).drew (some ⟨b1, o1, none⟩) b := ((HB.out.below hbw (Nat.le_refl _)).alloc _).drew
  have hnum1a : Calls Tryz.prog 63 #[.slice (some ⟨b1, o1, none⟩) n c, .int .i64 1] (W0.alloc (.cells #[.int .i64 0, .int .i64 0, .int .i64 0, .int .i64 0, .slice none 0 0, .slice none 0 0, .int .u16 0, .int .u16 0] 30)).drew fun e w' => e = .returned (.int .i64 ((Ak.num b 1 : Nat) : Int)) ∧ w'.heap[W0.heap.size]? = some (.cells #[.int .i64 0, .int .i64 0, .int .i64 0, .int .i64 0, .slice none 0 0, .slice none 0 0, .int .u16 0, .int .u16 0] 30 (0, 0)) ∧ Below W0.heap.size W0 w' := (hnum1 _ hLa).mono (by
    rintro e w' ⟨rfl, q, rfl⟩
    exact ⟨rfl, heap_alloc_new W0 _, drewN_below (drewN_below ((Below.refl _ _).alloc (Nat.le_refl _) _) 1) q⟩)
  have hnum1d : Calls Tryz.prog 63 #[.slice (some ⟨b1, o1, none⟩) n c, .int .i64 1] W0.drew fun e w' => e = .returned (.int .i64 ((Ak.num b 1 : Nat) : Int)) ∧ Below W0.heap.size W0 w' := (hnum1 _ hLd).mono (by
    rintro e w' ⟨rfl, q, rfl⟩
    exact ⟨rfl, drewN_below (drewN_below (Below.refl _ _) 1) q⟩)
  have HC : Hid (∀ W : World, Below W0.heap.size W0 W → W.cell? ⟨b1, o1, none⟩ = some (u8v x) ∧ W0.heap.size ≤ W.heap.size) := Lib.hid (fun W h => ⟨(h.cell (p := ⟨b1, o1, none⟩) hb1lt).trans hc0', h.size⟩)
  have hneb : b1 ≠ W0.heap.size := by omega
  go_region_held3 (fun W => W.cell? ⟨b1, o1, none⟩ = some (u8v x)) (first | with_reducible assumption | with_reducible exact HD.out _ _ (by with_reducible assumption) | with_reducible exact HN.out _ _ _ (by with_reducible assumption) | with_reducible exact HQ.out _ _ (by with_reducible assumption) | with_reducible exact HA.out _ _ (by with_reducible assumption) | (simp only [cell_far hneb]; with_reducible assumption) | fail) (first | (go_at_call 63; (refine hnum1a.mono ?_); rintro e w' ⟨rfl, hr', hb'⟩; rw [HX.out.2]; obtain ⟨hcc, hss⟩ := HC.out _ hb'; obtain ⟨z0, z1, z2, z3, z4, z5, z6, z7⟩ := row_eight hr'; obtain ⟨y0, y1, y2, y3, y4, y5, y6, y7⟩ := row_eight_free hr') | (go_at_call 63; (refine hnum1d.mono ?_); rintro e w' ⟨rfl, hb'⟩; rw [HX.out.2]; obtain ⟨hcc, hss⟩ := HC.out _ hb') | fail)
  · exact REST.out _ _ (by have := hb'.size; omega) (hb'.trans ((Below.refl _ _).alloc (by have := hb'.size; omega) _)) (row_at _ _ _ _ rfl)
  · exact REST.out _ _ (Nat.le_refl _) (below_eight hb' (Nat.le_refl _) _ _ _ _ _ _ _ _) (stored_eight hr' _ _ _ _ _ _ _ _)
end Go.Proofs.YtaembpncoicdpaaGreat
