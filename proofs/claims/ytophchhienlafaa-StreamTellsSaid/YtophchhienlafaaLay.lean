/-
  What the landed mbap's lay and Bytes leave.
-/
import Derived.Test.YtophchhienlafaaRead
import Derived.Deep.RegionHeld3
import Derived.Deep.DrawnRows
namespace Go.Proofs.Ytophchhienlafaa
open Go.RowKit

attribute [local go_sem ↓] Go.wp_at_zero Go.wp_at_succ

theorem lay_list (t : UInt16) (u : UInt8) (n m : Nat) (hm : n + 7 = m) (p : List UInt8) (hn : p.length = n) (Z : List Value) (hZ : Z = List.replicate m (Value.int .u8 0)) (r : UInt16) (hr : UInt16.ofNat (n + 1) = r) (h1 : n < 60000) (X Y P : List Value)
    (hX : X = [Value.int .u8 ((t.toNat : Int) / 256), Value.int .u8 ((t.toNat : Int) % 256)]) (hY : Y = [Value.int .u8 ((r.toNat : Int) / 256), Value.int .u8 ((r.toNat : Int) % 256)]) (hP : P = p.map u8v) :
    splice ((splice (splice Z 0 X) 4 Y).set 6 (u8v u)) 7 P = (Mb.head t u (n + 1) ++ p).map u8v := by
  have hrn : r.toNat = n + 1 := by rw [← hr, UInt16.toNat_ofNat']; omega
  obtain rfl : m = n + 7 := hm.symm
  subst hZ hX hY hP
  have e : ∀ x : Value, List.replicate (n + 7) x = x :: x :: x :: x :: x :: x :: x :: List.replicate n x := fun x => rfl
  have e2 : List.drop p.length (List.replicate n (Value.int .u8 0)) = [] := by rw [List.drop_eq_nil_iff, List.length_replicate, hn]; exact Nat.le_refl _
  rw [List.map_append, head_map t u (n + 1) (by omega), hrn, e]
  simp only [splice, List.length_cons, List.length_nil, List.take_zero, List.nil_append, Nat.zero_add, List.drop_succ_cons, List.drop_zero, List.cons_append, List.take_succ_cons, List.set_cons_succ, List.set_cons_zero, List.length_map]
  rw [show 7 + p.length = p.length + 1 + 1 + 1 + 1 + 1 + 1 + 1 by omega]
  simp only [List.drop_succ_cons, e2, List.append_nil]
  rw [Int.natCast_ediv, Int.natCast_emod, Int.natCast_ediv, Int.natCast_emod]
  rfl

theorem put_agg (x : UInt16) (w : World) :
    Calls Try.prog 25 #[u16v x] w fun e w' => e = .returned (.agg #[.int .u8 ((x.toNat / 256 : Nat) : Int), .int .u8 ((x.toNat % 256 : Nat) : Int)]) ∧ Below w.heap.size w w' := by
  have h := put_any x w
  rw [twov_eq] at h
  exact h

theorem row_top (w : World) (a b : Value) (t : TypeId) : (w.alloc (.cells #[a, b] t)).heap[w.heap.size]? = some (.cells #[a, b] t (0, 0)) := heap_alloc_new w _
theorem row_up {w : World} {g : Nat} {o : Obj} (h : w.heap[g]? = some o) (O : Obj) : (w.alloc O).heap[g]? = some o := row_later h ((Below.refl _ _).alloc (Nat.le_refl _) O)
theorem row_top2 (w : World) (O : Obj) (a b : Value) (t : TypeId) : ((w.alloc O).alloc (.cells #[a, b] t)).heap[w.heap.size + 1]? = some (.cells #[a, b] t (0, 0)) := by
  have := row_top (w.alloc O) a b t
  rwa [World.size_alloc] at this
theorem row_under (w : World) (a b : Value) (t : TypeId) (O : Obj) : ((w.alloc (.cells #[a, b] t)).alloc O).heap[w.heap.size]? = some (.cells #[a, b] t (0, 0)) := row_up (row_top w a b t) O

theorem row_topD (w : World) (a b : Value) (t : TypeId) : (w.alloc (.cells #[a, b] t)).drew.heap[w.heap.size]? = some (.cells #[a, b] t (0, 0)) := row_top w a b t
theorem row_top2D (w : World) (O : Obj) (a b : Value) (t : TypeId) : ((w.alloc O).alloc (.cells #[a, b] t)).drew.heap[w.heap.size + 1]? = some (.cells #[a, b] t (0, 0)) := row_top2 w O a b t
theorem row_underD (w : World) (a b : Value) (t : TypeId) (O : Obj) : ((w.alloc (.cells #[a, b] t)).alloc O).drew.heap[w.heap.size]? = some (.cells #[a, b] t (0, 0)) := row_under w a b t O

set_option maxRecDepth 100000 in
set_option maxHeartbeats 4000000 in
theorem lay_any (t : UInt16) (u : UInt8) (A : Option Addr) (n c : Nat) (p : List UInt8) (hn : p.length = n) (h0 : 0 < n) (hm : n ≤ 253) (w : World) (hb : Lies u8v w A p) :
    Calls Try.prog 20 #[.agg #[u16v t, u8v u, .slice A n c]] w fun e w' => ∃ B d, e = .returned (.slice B (n + 7) d) ∧ w'.ownsRow w.heap.size 5 1 (.slice B (n + 7) d) (n + 7) ((Mb.head t u (n + 1) ++ p).map u8v) ∧ Below w.heap.size w w' := by
  have hmx : Try.prog.follows .mixedOrders = true := by kernel_rfl
  have hw1 : IntKind.u16.wrap (IntKind.i64.wrap (1 + (n : Int))) = ((UInt16.ofNat (n + 1)).toNat : Int) := by
    rw [IntKind.wrap_i64, IntKind.wrap_u16, UInt16.toNat_ofNat']; omega
  obtain ⟨r, hr⟩ : ∃ r, UInt16.ofNat (n + 1) = r := ⟨_, rfl⟩
  rw [hr] at hw1
  go_enter Try.func20, Try.ntmps20
  go_wp2_with fail
  rename_i Q' K hKK
  obtain ⟨W0, hW0⟩ : ∃ W0, w.alloc (.cells #[u16v t, u8v u, .slice A n c] 45) = W0 := ⟨_, rfl⟩
  have hrow : W0.heap[w.heap.size]? = some (.cells #[u16v t, u8v u, .slice A n c] 45 (0, 0)) := by rw [← hW0]; exact heap_alloc_new w _
  have hbw : Below w.heap.size w W0 := by rw [← hW0]; exact (Below.refl _ w).alloc (Nat.le_refl _) _
  have hsz : w.heap.size < W0.heap.size := by rw [← hW0]; simp
  rw [hW0]
  obtain ⟨hc0, _, hc2⟩ := row_three hrow
  have REST : Hid (∀ (g3 g4 : Nat) (W : World), (W.cell? ⟨w.heap.size, 0, none⟩ = some (u16v t) ∧ W.cell? ⟨w.heap.size, 2, none⟩ = some (.slice A n c) ∧ W0.heap.size ≤ W.heap.size ∧ Below W0.heap.size W0 W) → W.cell? ⟨g3, 0, none⟩ = some (.int .u8 ((t.toNat : Int) / 256)) → W.cell? ⟨g3, 1, none⟩ = some (.int .u8 ((t.toNat : Int) % 256)) → W.cell? ⟨g4, 0, none⟩ = some (.int .u8 ((r.toNat : Int) / 256)) → W.cell? ⟨g4, 1, none⟩ = some (.int .u8 ((r.toNat : Int) % 256)) →
      Exit.then K Q' .normal { tmps := #[.agg #[u16v t, u8v u, .slice A n c], .pointer (some ⟨w.heap.size, 0, none⟩), .slice none 0 0, .pointer (some ⟨g3, 0, none⟩), .pointer (some ⟨g4, 0, none⟩), undef, .pointer (some ⟨w.heap.size, 0, none⟩), u16v t, .agg #[.int .u8 ((t.toNat : Int) / 256), .int .u8 ((t.toNat : Int) % 256)], .pointer (some ⟨w.heap.size, 2, none⟩), .slice A n c, .int .i64 (n : Int), .int .i64 (IntKind.i64.wrap (1 + (n : Int))), .int .u16 (r.toNat : Int), .agg #[.int .u8 ((r.toNat : Int) / 256), .int .u8 ((r.toNat : Int) % 256)], undef, undef, undef, undef, undef, undef, undef, undef, undef, undef, undef, undef, undef, undef, undef, undef, undef, undef, undef, undef, undef, undef, undef], defers := [] } W) := Lib.hid (by
    intro g3 g4 W hS h30 h31 h40 h41
    have hbW := hbw.trans (hS.2.2.2.mono (Nat.le_of_lt hsz))
    have hrowW := (hS.2.2.2.block _ hsz).trans hrow
    obtain ⟨hw0, hw1', hw2⟩ := row_three hrowW
    have hszW := hbW.size
    have hszW' : w.heap.size < W.heap.size := Nat.lt_of_lt_of_le hsz hS.2.2.1
    obtain ⟨X, hX⟩ : ∃ X : List Value, X = [Value.int .u8 ((t.toNat : Int) / 256), Value.int .u8 ((t.toNat : Int) % 256)] := ⟨_, rfl⟩
    obtain ⟨Y, hY⟩ : ∃ Y : List Value, Y = [Value.int .u8 ((r.toNat : Int) / 256), Value.int .u8 ((r.toNat : Int) % 256)] := ⟨_, rfl⟩
    obtain ⟨P, hP⟩ : ∃ P : List Value, P = p.map u8v := ⟨_, rfl⟩
    obtain ⟨m, hm7⟩ : ∃ m, n + 7 = m := ⟨_, rfl⟩
    obtain ⟨Z, hZ⟩ : ∃ Z : List Value, Z = List.replicate m (Value.int .u8 0) := ⟨_, rfl⟩
    have hwm : IntKind.i64.wrap (7 + (n : Int)) = (m : Int) := by rw [IntKind.wrap_i64]; omega
    obtain ⟨i0, hi0, hi1, hi2, hi3⟩ := info_parts kit8.hi
    have hi8 : (Try.prog.info? 5).map (·.size) = some 1 := by rw [hi0]; simp [hi2]
    have HXc : Hid (∀ V : World, Below W.heap.size W V → ∀ j v, X[j]? = some v → V.cell? ((⟨g3, 0, none⟩ : Addr).add j) = some v) := Lib.hid (by
      subst hX
      intro V hV j v hj
      rcases j with _ | _ | j
      · simp at hj; subst hj; exact cell_later hV h30
      · simp at hj; subst hj; exact cell_later hV h31
      · simp at hj)
    have HYc : Hid (∀ V : World, Below W.heap.size W V → ∀ j v, Y[j]? = some v → V.cell? ((⟨g4, 0, none⟩ : Addr).add j) = some v) := Lib.hid (by
      subst hY
      intro V hV j v hj
      rcases j with _ | _ | j
      · simp at hj; subst hj; exact cell_later hV h40
      · simp at hj; subst hj; exact cell_later hV h41
      · simp at hj)
    have HG0 : Hid ((W.alloc (.cells (madeCells #[Value.int .u8 0] m) 5)).heap[W.heap.size]? = some (.cells Z.toArray 5 (0, 0))) := Lib.hid (by rw [hZ, ← zeros_eq]; exact heap_alloc_new W _)
    have HB0 : Hid (Below W.heap.size W (W.alloc (.cells (madeCells #[Value.int .u8 0] m) 5))) := Lib.hid ((Below.refl _ W).alloc (Nat.le_refl _) _)
    have HF := Lib.hid (lay_list t u n m hm7 p hn Z hZ r hr (by omega) X Y P hX hY hP)
    have HX2 : Hid (X.length = 2) := Lib.hid (by rw [hX]; rfl)
    have HY2 : Hid (Y.length = 2) := Lib.hid (by rw [hY]; rfl)
    have HP2 : Hid (P.length = n) := Lib.hid (by rw [hP, List.length_map]; exact hn)
    have HZ2 : Hid (Z.length = m) := Lib.hid (by rw [hZ, List.length_replicate])
    have HX1 : Hid (∀ v ∈ X, v.oneCell' = true) := Lib.hid (by subst hX; intro v hv; simp at hv; rcases hv with rfl | rfl <;> rfl)
    have HY1 : Hid (∀ v ∈ Y, v.oneCell' = true) := Lib.hid (by subst hY; intro v hv; simp at hv; rcases hv with rfl | rfl <;> rfl)
    have HP1 : Hid (∀ v ∈ P, v.oneCell' = true) := Lib.hid (map_one hP)
    have HN := Lib.hid hn
    have HPP := Lib.hid hP
    have HLW := Lib.hid (hb.below hbW (Nat.le_refl _))
    have hm1 : 8 ≤ m := by omega
    have hm2 : m ≤ 260 := by omega
    clear hX hY hP hZ hn hr h30 h31 h40 h41 hS hrow hbw hc0 hc2 hb
    show K _ _
    refine hKK _ _ ?_
    clear hKK
    go_wp2_with (at_make; go_must (refine wpList_make_row _ rfl _ _ 24 rfl 5 i0 (.int .u8 0) kit8.ht hi0 hi1 hi2 rfl .i64 .i64 m rfl rfl (by rw [hi3]; omega) (by omega) ?_))
    obtain ⟨V0, hV0⟩ : ∃ V0, W.alloc (.cells (madeCells #[Value.int .u8 0] m) 5) = V0 := ⟨_, rfl⟩
    rw [hV0] at HG0 HB0
    rw [hV0]
    clear hV0
    have hn2 : Nat.min 2 m = 2 := Nat.min_eq_left (by omega)
    have hn24 : Nat.min 2 (m - 4) = 2 := Nat.min_eq_left (by omega)
    have hm4 : ¬ m = 4 := by omega
    have hm7' : ¬ m = 7 := by omega
    have hm0 : ¬ m = 0 := by omega
    have i4 : (4 : Int) ≤ (m : Int) := by omega
    have i7 : (7 : Int) ≤ (m : Int) := by omega
    have i6 : (6 : Int) < (m : Int) := by omega
    go_region_held3 (fun _ => True) (trivial) (first | (refine step_copy_splice (o := ⟨some 23, _, _, _, _, _⟩) (by rfl) (.tmp 21) (.tmp 22) 24 24 (by rfl) 5 kit8.ht hi8 (some ⟨W.heap.size, 0, none⟩) (some ⟨g3, 0, none⟩) m m 2 2 (by rfl) (by rfl) W.heap.size 0 Z 5 HG0.out X (by rw [HX2.out]; exact hn2.symm) (fun _ => ⟨rfl, _, rfl, HXc.out _ (drewN_below HB0.out 1)⟩) (by rw [HX2.out, HZ2.out]; omega) HX1.out W.heap.size W (drewN_below HB0.out 1) (Nat.le_refl _) ?_; intro V1 HG1 HB1))
    go_wp2_with fail
    obtain ⟨L1, hL1⟩ : ∃ L1, splice Z 0 X = L1 := ⟨_, rfl⟩
    rw [hL1] at HG1 HF
    have HL1 : Hid (L1.length = m) := Lib.hid (by rw [← hL1, length_splice _ _ _ (by rw [HX2.out, HZ2.out]; omega)]; exact HZ2.out)
    clear hL1 HG0 HB0
    go_region_held3 (fun _ => True) (trivial) (first | (refine step_copy_splice (o := ⟨some 27, _, _, _, _, _⟩) (by rfl) (.tmp 25) (.tmp 26) 24 24 (by rfl) 5 kit8.ht hi8 (some ⟨W.heap.size, 4, none⟩) (some ⟨g4, 0, none⟩) (m - 4) (m - 4) 2 2 (by rfl) (by rfl) W.heap.size 4 L1 5 HG1.out Y (by rw [HY2.out]; exact hn24.symm) (fun _ => ⟨rfl, _, rfl, HYc.out _ (drewN_below HB1 1)⟩) (by rw [HY2.out, HL1.out]; omega) HY1.out W.heap.size W (drewN_below HB1 1) (Nat.le_refl _) ?_; intro V2 HG2 HB2))
    obtain ⟨L2, hL2⟩ : ∃ L2, splice L1 4 Y = L2 := ⟨_, rfl⟩
    rw [hL2] at HG2 HF
    have HL2 : Hid (L2.length = m) := Lib.hid (by rw [← hL2, length_splice _ _ _ (by rw [HY2.out, HL1.out]; omega)]; exact HL1.out)
    clear hL2 HG1 HB1
    have hbV2 := hbW.trans (HB2.mono hszW)
    obtain ⟨hx0, hx1, hx2⟩ := row_three ((HB2.block _ hszW').trans hrowW)
    obtain ⟨l6, hl6⟩ : ∃ l6, L2[6]? = some l6 := ⟨_, List.getElem?_eq_getElem (by rw [HL2.out]; omega)⟩
    have hk6 : V2.cell? ⟨W.heap.size, 6, none⟩ = some l6 := by rw [cell_of_row V2 _ _ _ _ _ HG2.out]; simpa using hl6
    have hf6 : V2.frozen? ⟨W.heap.size, 6, none⟩ = false := by simp [World.frozen?, HG2.out]
    have HG3 : Hid ((V2.setCell ⟨W.heap.size, 6, none⟩ (u8v u)).heap[W.heap.size]? = some (.cells (L2.set 6 (u8v u)).toArray 5 (0, 0))) := Lib.hid (by
      have := HG2.out
      simp [World.setCell, Array.getElem?_modify, this])
    have HB3 : Hid (Below W.heap.size W (V2.setCell ⟨W.heap.size, 6, none⟩ (u8v u))) := Lib.hid (HB2.setCell (p := ⟨W.heap.size, 6, none⟩) (Nat.le_refl _) _)
    clear hl6
    go_wp2_with fail
    have hset : ∀ V : World, V.setCell ⟨W.heap.size, 6, none⟩ (Value.int .u8 (u.toNat : Int)) = V.setCell ⟨W.heap.size, 6, none⟩ (u8v u) := fun _ => rfl
    rw [hset]
    obtain ⟨V3, hV3⟩ : ∃ V3, V2.setCell ⟨W.heap.size, 6, none⟩ (u8v u) = V3 := ⟨_, rfl⟩
    rw [hV3] at HG3 HB3
    rw [hV3]
    obtain ⟨L3, hL3⟩ : ∃ L3, L2.set 6 (u8v u) = L3 := ⟨_, rfl⟩
    rw [hL3] at HG3 HF
    have HL3 : Hid (L3.length = m) := Lib.hid (by rw [← hL3, List.length_set]; exact HL2.out)
    have hrow3 := (HB3.out.block _ hszW').trans hrowW
    obtain ⟨hy0, hy1, hy2⟩ := row_three hrow3
    have hn7 : P.length = Nat.min n (m - 7) := by rw [HP2.out]; exact (Nat.min_eq_left (by omega)).symm
    have HPc : Hid (0 < P.length → (some ⟨W.heap.size, 7, none⟩ : Option Addr) = some ⟨W.heap.size, 7, none⟩ ∧ ∃ ad, A = some ad ∧ ∀ j v, P[j]? = some v → V3.drew.cell? (ad.add j) = some v) := Lib.hid (by
      intro _
      obtain ⟨b1, o1, rfl, _, _⟩ := HLW.out.at_ (by rw [HN.out]; exact h0)
      exact ⟨rfl, _, rfl, cut_cells (HLW.out.below (drewN_below HB3.out 1) (Nat.le_refl _)) HPP.out⟩)
    clear hV3 hL3 HG2 HB2 hk6 hf6 hset hx0 hx1 hx2 hbV2
    go_region_held3 (fun V => V.cell? ⟨w.heap.size, 2, none⟩ = some (.slice A n c)) (first | assumption | exact HY5) (first | (refine step_copy_splice (o := ⟨some 36, _, _, _, _, _⟩) (by rfl) (.tmp 33) (.tmp 35) 24 24 (by rfl) 5 kit8.ht hi8 (some ⟨W.heap.size, 7, none⟩) A (m - 7) (m - 7) n c (by rfl) (by rfl) W.heap.size 7 L3 5 HG3.out P hn7 HPc.out (by rw [HP2.out, HL3.out]; omega) HP1.out W.heap.size W (drewN_below HB3.out 1) (Nat.le_refl _) ?_; intro V4 HG4 HB4; have HY5 := (row_three ((HB4.block _ hszW').trans hrowW)).2.2))
    go_wp2_with fail
    go_ret
    rw [HF.out] at HG4
    have hlen : ((Mb.head t u (n + 1) ++ p).map u8v).length = m := by rw [List.length_map, List.length_append, HN.out]; simp [Mb.head]; omega
    rw [List.map_append] at HG4 hlen
    subst hm7
    exact ⟨some ⟨W.heap.size, 0, none⟩, n + 7, rfl, ⟨by rw [hlen, Nat.mul_one], .inr ⟨_, _, _, rfl, hszW, HG4.out, Nat.le_refl _, by unfold maxLen; omega, by rw [List.size_toArray, hlen, Nat.mul_one], by rw [Nat.mul_one]; exact List.take_of_length_le (Nat.le_of_eq hlen)⟩⟩, hbW.trans (HB4.mono hszW)⟩)
  clear hKK
  have HK : Hid (∀ W1 W2 : World, Below W1.heap.size W1 W2 → (W1.cell? ⟨w.heap.size, 0, none⟩ = some (u16v t) ∧ W1.cell? ⟨w.heap.size, 2, none⟩ = some (.slice A n c) ∧ W0.heap.size ≤ W1.heap.size ∧ Below W0.heap.size W0 W1) → (W2.cell? ⟨w.heap.size, 0, none⟩ = some (u16v t) ∧ W2.cell? ⟨w.heap.size, 2, none⟩ = some (.slice A n c) ∧ W0.heap.size ≤ W2.heap.size ∧ Below W0.heap.size W0 W2)) := Lib.hid (fun W1 W2 h h1 => ⟨cell_later h h1.1, cell_later h h1.2.1, Nat.le_trans h1.2.2.1 h.size, h1.2.2.2.trans (h.mono h1.2.2.1)⟩)
  have HA : Hid (∀ (W1 : World) (O : Obj), (W1.cell? ⟨w.heap.size, 0, none⟩ = some (u16v t) ∧ W1.cell? ⟨w.heap.size, 2, none⟩ = some (.slice A n c) ∧ W0.heap.size ≤ W1.heap.size ∧ Below W0.heap.size W0 W1) → ((W1.alloc O).cell? ⟨w.heap.size, 0, none⟩ = some (u16v t) ∧ (W1.alloc O).cell? ⟨w.heap.size, 2, none⟩ = some (.slice A n c) ∧ W0.heap.size ≤ (W1.alloc O).heap.size ∧ Below W0.heap.size W0 (W1.alloc O))) := Lib.hid (fun W1 O h1 => HK.out W1 _ ((Below.refl _ _).alloc (Nat.le_refl _) O) h1)
  have HS : Hid (∀ (W1 : World) (g k : Nat) (v : Value), W0.heap.size ≤ g → (W1.cell? ⟨w.heap.size, 0, none⟩ = some (u16v t) ∧ W1.cell? ⟨w.heap.size, 2, none⟩ = some (.slice A n c) ∧ W0.heap.size ≤ W1.heap.size ∧ Below W0.heap.size W0 W1) → ((W1.setCell ⟨g, k, none⟩ v).cell? ⟨w.heap.size, 0, none⟩ = some (u16v t) ∧ (W1.setCell ⟨g, k, none⟩ v).cell? ⟨w.heap.size, 2, none⟩ = some (.slice A n c) ∧ W0.heap.size ≤ (W1.setCell ⟨g, k, none⟩ v).heap.size ∧ Below W0.heap.size W0 (W1.setCell ⟨g, k, none⟩ v))) := Lib.hid (fun W1 g k v hg h1 => ⟨(cell_far (by omega) v).trans h1.1, (cell_far (by omega) v).trans h1.2.1, by have := h1.2.2.1; simpa using this, h1.2.2.2.setCell (p := ⟨g, k, none⟩) hg v⟩)
  have HD : Hid (∀ (W1 : World) (O : Obj), (W1.drew.cell? ⟨w.heap.size, 0, none⟩ = some (u16v t) ∧ W1.drew.cell? ⟨w.heap.size, 2, none⟩ = some (.slice A n c) ∧ W0.heap.size ≤ W1.drew.heap.size ∧ Below W0.heap.size W0 W1.drew) → ((W1.alloc O).drew.cell? ⟨w.heap.size, 0, none⟩ = some (u16v t) ∧ (W1.alloc O).drew.cell? ⟨w.heap.size, 2, none⟩ = some (.slice A n c) ∧ W0.heap.size ≤ (W1.alloc O).drew.heap.size ∧ Below W0.heap.size W0 (W1.alloc O).drew)) := Lib.hid (fun W1 O h1 => HA.out W1.drew O h1)
  have hS0 : (W0.cell? ⟨w.heap.size, 0, none⟩ = some (u16v t) ∧ W0.cell? ⟨w.heap.size, 2, none⟩ = some (.slice A n c) ∧ W0.heap.size ≤ W0.heap.size ∧ Below W0.heap.size W0 W0) := ⟨hc0, hc2, Nat.le_refl _, Below.refl _ _⟩
  have hS0d : (W0.drew.cell? ⟨w.heap.size, 0, none⟩ = some (u16v t) ∧ W0.drew.cell? ⟨w.heap.size, 2, none⟩ = some (.slice A n c) ∧ W0.heap.size ≤ W0.drew.heap.size ∧ Below W0.heap.size W0 W0.drew) := ⟨hc0, hc2, Nat.le_refl _, drewN_below (Below.refl _ _) 1⟩
  clear hW0
  go_region_held3 (fun W => (W.cell? ⟨w.heap.size, 0, none⟩ = some (u16v t) ∧ W.cell? ⟨w.heap.size, 2, none⟩ = some (.slice A n c) ∧ W0.heap.size ≤ W.heap.size ∧ Below W0.heap.size W0 W)) (first | with_reducible assumption | with_reducible exact HD.out _ _ (by with_reducible assumption) | with_reducible exact HA.out _ _ (by with_reducible assumption) | with_reducible exact HA.out _ _ (HA.out _ _ (by with_reducible assumption)) | ((with_reducible apply HA.out); (with_reducible refine HS.out _ _ _ _ ?_ (HS.out _ _ _ _ ?_ ?_)); (first | omega | (dsimp only; omega) | (simp; omega)); (first | omega | (dsimp only; omega) | (simp; omega)); first | with_reducible assumption | with_reducible exact HA.out _ _ (by with_reducible assumption)) | ((with_reducible refine HS.out _ _ _ _ ?_ (HS.out _ _ _ _ ?_ (HS.out _ _ _ _ ?_ (HS.out _ _ _ _ ?_ ?_)))); (first | omega | (dsimp only; omega) | (simp; omega)); (first | omega | (dsimp only; omega) | (simp; omega)); (first | omega | (dsimp only; omega) | (simp; omega)); (first | omega | (dsimp only; omega) | (simp; omega)); first | with_reducible assumption | with_reducible exact HA.out _ _ (by with_reducible assumption)) | ((with_reducible refine HS.out _ _ _ _ ?_ (HS.out _ _ _ _ ?_ ?_)); (first | omega | (dsimp only; omega) | (simp; omega)); (first | omega | (dsimp only; omega) | (simp; omega)); first | with_reducible assumption | with_reducible exact HA.out _ _ (by with_reducible assumption))) (first | (go_at_call 25; with_reducible refine (put_agg t _).mono ?_; rintro e w' ⟨rfl, hb'⟩; have hh := HK.out _ _ hb' (by with_reducible assumption); have hsz' := hh.2.2.1; (first | with_reducible have HR1 := Lib.hid (row_later (row_top2D _ _ _ _ _) hb') | with_reducible have HR1 := Lib.hid (row_later (row_topD _ _ _ _) hb') | skip); (first | with_reducible have HR2 := Lib.hid (row_later (row_underD _ _ _ _ _) hb') | skip)) | (go_at_call 25; with_reducible refine (put_agg r _).mono ?_; rintro e w' ⟨rfl, hb'⟩; have hh := HK.out _ _ hb' (by with_reducible assumption); have hsz' := hh.2.2.1; (first | (have hvHR1 := row_lt (Hid.out HR1); have huHR1 := Nat.ne_of_lt hvHR1; have hwHR1 := Nat.ne_of_gt hvHR1) | skip); (first | (have hz := row_two (row_later (Hid.out HR1) hb'); obtain ⟨hp1, hp2, hp3, hp4⟩ := hz; have hnhp := World.block_lt_of_cell? _ _ hp1; dsimp only at hnhp; have hmhp := Nat.ne_of_lt hnhp; have hkhp := Nat.ne_of_gt hnhp) | (have hz := row_two (row_later (row_up (Hid.out HR1) _) hb'); obtain ⟨hp1, hp2, hp3, hp4⟩ := hz; have hnhp := World.block_lt_of_cell? _ _ hp1; dsimp only at hnhp; have hmhp := Nat.ne_of_lt hnhp; have hkhp := Nat.ne_of_gt hnhp) | skip); (first | (have hvHR2 := row_lt (Hid.out HR2); have huHR2 := Nat.ne_of_lt hvHR2; have hwHR2 := Nat.ne_of_gt hvHR2) | skip); (first | (have hz := row_two (row_later (Hid.out HR2) hb'); obtain ⟨hq1, hq2, hq3, hq4⟩ := hz; have hnhq := World.block_lt_of_cell? _ _ hq1; dsimp only at hnhq; have hmhq := Nat.ne_of_lt hnhq; have hkhq := Nat.ne_of_gt hnhq) | (have hz := row_two (row_later (row_up (Hid.out HR2) _) hb'); obtain ⟨hq1, hq2, hq3, hq4⟩ := hz; have hnhq := World.block_lt_of_cell? _ _ hq1; dsimp only at hnhq; have hmhq := Nat.ne_of_lt hnhq; have hkhq := Nat.ne_of_gt hnhq) | skip); (first | (with_reducible have hz := row_two (row_later (row_top2 _ _ _ _ _) hb'); obtain ⟨hs1, hs2, hs3, hs4⟩ := hz; have hnhs := World.block_lt_of_cell? _ _ hs1; dsimp only at hnhs; have hmhs := Nat.ne_of_lt hnhs; have hkhs := Nat.ne_of_gt hnhs) | (with_reducible have hz := row_two (row_later (row_top _ _ _ _) hb'); obtain ⟨hs1, hs2, hs3, hs4⟩ := hz; have hnhs := World.block_lt_of_cell? _ _ hs1; dsimp only at hnhs; have hmhs := Nat.ne_of_lt hnhs; have hkhs := Nat.ne_of_gt hnhs) | skip); (first | (with_reducible have hz := row_two (row_later (row_under _ _ _ _ _) hb'); obtain ⟨ht1, ht2, ht3, ht4⟩ := hz; have hnht := World.block_lt_of_cell? _ _ ht1; dsimp only at hnht; have hmht := Nat.ne_of_lt hnht; have hkht := Nat.ne_of_gt hnht) | skip)))
  all_goals (refine REST.out _ _ _ (by with_reducible assumption) ?_ ?_ ?_ ?_ <;> go_simp)
end Go.Proofs.Ytophchhienlafaa
