
/-
  Small things about bytes that every layer wants; the document's 'are bytes the same'.
-/
import Derived.Test.YtcbkbdoaaaofjaaGreatMem
import Derived.Test.YtcbkbdoaaaofjaaGreatProg
import Derived.WalkKit
import Derived.Outline
import Derived.Lib.Hide
import Derived.Deep.QuietTactic
import Derived.Deep.DeepMust
import Derived.BigQuiet
namespace Go.Proofs.YtcbkbdoaaaofjaaGreat
open Go.RowKit

theorem kit8 : EK Tryz.prog 31 5 (.int .u8 0) 1 := ⟨Tryz.underlying31, by kernel_rfl, rfl⟩
theorem one8 : ∀ x : UInt8, (u8v x).oneCell' = true := fun _ => rfl
theorem own_lower {w : World} {B B' e n : Nat} {v : Value} {xs : List Value} (h : w.ownsRow B e 1 v n xs) (hB : B' ≤ B) : w.ownsRow B' e 1 v n xs := by
  refine ⟨h.1, ?_⟩
  rcases h.2 with h' | ⟨g, cap, cur, hv, hb, rest⟩
  · exact .inl h'
  · exact .inr ⟨g, cap, cur, hv, Nat.le_trans hB hb, rest⟩
theorem own_below {w w' : World} {B e n : Nat} {v : Value} {xs : List Value} (h : w.ownsRow B e 1 v n xs) (hb : Below w.heap.size w w') : w'.ownsRow B e 1 v n xs :=
  h.kept ⟨hb.os, hb.tape, hb.output, hb.size, fun k hk _ => hb.block k hk⟩ (row := none) (by rcases h.2 with ⟨rfl, _⟩ | ⟨g, cap, cur, rfl, _⟩ <;> simp [Value.ownBlock])
theorem row_two {w : World} {g : Nat} {a b : Value} {t : TypeId} (h : w.heap[g]? = some (.cells #[a, b] t (0, 0))) :
    w.cell? ⟨g, 0, none⟩ = some a ∧ w.cell? ⟨g, 1, none⟩ = some b ∧ w.frozen? ⟨g, 0, none⟩ = false ∧ w.frozen? ⟨g, 1, none⟩ = false := by
  simp [World.cell?, World.frozen?, h]
theorem cell_later {W w' : World} (hb : Below W.heap.size W w') {p : Addr} {v : Value} (h : W.cell? p = some v) : w'.cell? p = some v :=
  (hb.cell (p := p) (World.block_lt_of_cell? W _ h)).trans h

theorem take_step {α : Type} (l k : List α) (i : Nat) (h1 : i < l.length) (h2 : i < k.length) (ht : l.take i = k.take i) (hx : l[i] = k[i]) : l.take (i + 1) = k.take (i + 1) := by
  rw [List.take_succ_eq_append_getElem h1, List.take_succ_eq_append_getElem h2, ht, hx]
section
variable {α : Type} [BEq α] [LawfulBEq α]
theorem same_no (l k : List α) (i : Nat) (h1 : i < l.length) (h2 : i < k.length) (hx : l[i] ≠ k[i]) : (l == k) = false := by
  rw [beq_eq_false_iff_ne]
  rintro rfl
  exact hx rfl
theorem same_len (l k : List α) (h : l.length ≠ k.length) : (l == k) = false := by
  rw [beq_eq_false_iff_ne]
  rintro rfl
  exact h rfl
theorem same_yes (l k : List α) (h : l.length = k.length) (ht : l.take l.length = k.take l.length) : (l == k) = true := by
  rw [beq_iff_eq]
  rwa [List.take_length, h, List.take_length] at ht
end

set_option maxRecDepth 100000 in
set_option maxHeartbeats 400000 in
theorem rsame8_any (A1 A2 : Option Addr) (n m c d : Nat) (l k : List UInt8) (hn : l.length = n) (hm : k.length = m) (hmn : n ≤ maxLen) (w : World) (h1 : Lies u8v w A1 l) (h2 : Lies u8v w A2 k) :
    Calls Tryz.prog 13 #[.slice A1 n c, .slice A2 m d] w fun e w' => e = .returned (.bool (l == k)) ∧ ∃ q, w' = w.drewN q := by
  subst hn
  subst hm
  unfold maxLen at hmn
  by_cases hlen : l.length = k.length
  · have he : ((l.length : Int) != (k.length : Int)) = false := by rw [hlen]; simp
    have HLEN := Lib.hid hlen
    have hle : l.length ≤ k.length := by omega
    clear hlen
    go_enter Tryz.func13, Tryz.ntmps13
    go_wp2
    go_loopw [5] (fun i wr => ∃ j : Nat, j ≤ l.length ∧ i = .int .i64 j ∧ l.take j = k.take j ∧ ∃ q, wr = w.drewN q) (fun i _ => l.length - (intOf i).toNat)
    case atStart => exact ⟨0, Nat.zero_le _, rfl, rfl, 0, rfl⟩
    case round =>
      obtain ⟨j, hj, rfl, ht, q, rfl⟩ := hrel
      have HT := Lib.hid ht
      clear ht
      by_cases hlt : j < l.length
      · obtain ⟨b1, o1, rfl, hc1⟩ := h1 j hlt
        have hlt2 : j < k.length := by omega
        obtain ⟨b2, o2, rfl, hc2⟩ := h2 j hlt2
        unfold u8v at hc1 hc2
        by_cases hx : l[j] = k[j]
        · have HS := Lib.hid (take_step l k j hlt hlt2 HT.out hx)
          rw [← hx] at hc2
          clear hx
          generalize l[j] = x at hc1 hc2
          go_wp2
          go_quiet (fail)
          go_wp2
          go_roundw
          case rel => exact ⟨j + 1, by omega, by go_num, HS.out, _, rfl⟩
          case measure => simp [intOf]; omega
        · have HS := Lib.hid (same_no l k j hlt hlt2 hx)
          have hne : (((l[j]).toNat : Int) != ((k[j]).toNat : Int)) = true := by
            rw [bne_iff_ne]
            intro e
            exact hx (UInt8.toNat_inj.1 (by exact_mod_cast e))
          clear hx
          generalize l[j] = x at hc1 hne
          generalize k[j] = y at hc2 hne
          go_wp2
          go_quiet (fail)
          go_wp2
          go_ret
          exact ⟨by rw [HS.out]; rfl, _, World.drewN_drewN _ _ _⟩
      · obtain rfl : j = l.length := by omega
        have HS := Lib.hid (same_yes l k HLEN.out HT.out)
        go_wp2
        go_ret
        exact ⟨by rw [HS.out]; rfl, _, rfl⟩
  · have he : ((l.length : Int) != (k.length : Int)) = true := by rw [bne_iff_ne]; omega
    have HS := Lib.hid (same_len l k hlen)
    clear hlen
    go_enter Tryz.func13, Tryz.ntmps13
    go_wp2
    go_ret
    exact ⟨by rw [HS.out]; rfl, 0, rfl⟩

end Go.Proofs.YtcbkbdoaaaofjaaGreat

/-
  Rows of a struct's cells.
-/
namespace Go.Proofs.YtcbkbdoaaaofjaaGreat
open Go.RowKit

theorem row_at (w : World) (cs : Array Value) (e : TypeId) (g : Nat) (hg : w.heap.size = g) : (w.alloc (.cells cs e)).heap[g]? = some (.cells cs e (0, 0)) := by
  subst hg
  exact heap_alloc_new w _
theorem row_lt {w : World} {g : Nat} {o : Obj} (h : w.heap[g]? = some o) : g < w.heap.size := by
  rcases Nat.lt_or_ge g w.heap.size with h' | h'
  · exact h'
  · rw [Array.getElem?_eq_none h'] at h; cases h
theorem row_later {w w' : World} {g : Nat} {o : Obj} (h : w.heap[g]? = some o) (hb : Below w.heap.size w w') : w'.heap[g]? = some o := (hb.block g (row_lt h)).trans h
theorem row_three {w : World} {g : Nat} {a b c : Value} {t : TypeId} (h : w.heap[g]? = some (.cells #[a, b, c] t (0, 0))) :
    w.cell? ⟨g, 0, none⟩ = some a ∧ w.cell? ⟨g, 1, none⟩ = some b ∧ w.cell? ⟨g, 2, none⟩ = some c := by
  simp [World.cell?, h]
theorem row_three_free {w : World} {g : Nat} {a b c : Value} {t : TypeId} (h : w.heap[g]? = some (.cells #[a, b, c] t (0, 0))) :
    w.frozen? ⟨g, 0, none⟩ = false ∧ w.frozen? ⟨g, 1, none⟩ = false ∧ w.frozen? ⟨g, 2, none⟩ = false := by
  simp [World.frozen?, h]
theorem three_stored {w : World} {g : Nat} {a b c : Value} {t : TypeId} (h : w.heap[g]? = some (.cells #[a, b, c] t (0, 0))) (x y z : Value) :
    (((w.setCell ⟨g, 0, none⟩ x).setCell ⟨g, 1, none⟩ y).setCell ⟨g, 2, none⟩ z).heap[g]? = some (.cells #[x, y, z] t (0, 0)) := by
  simp [World.setCell, Array.getElem?_modify, h]
theorem cell_far {w : World} {g b o k : Nat} (hne : b ≠ g) (x : Value) : (w.setCell ⟨g, k, none⟩ x).cell? ⟨b, o, none⟩ = w.cell? ⟨b, o, none⟩ := by
  simp only [World.cell?, World.setCell]
  rw [Array.getElem?_modify, if_neg (fun e => hne e.symm)]
theorem three_far {w : World} {g b o : Nat} (hne : b ≠ g) (x y z : Value) : (((w.setCell ⟨g, 0, none⟩ x).setCell ⟨g, 1, none⟩ y).setCell ⟨g, 2, none⟩ z).cell? ⟨b, o, none⟩ = w.cell? ⟨b, o, none⟩ := by
  rw [cell_far hne, cell_far hne, cell_far hne]
theorem lies_three {α : Type} {f : α → Value} {w : World} {A : Option Addr} {g : Nat} {l : List α} (h : Lies f w A l) (hne : ∀ b o s, A = some ⟨b, o, s⟩ → 0 < l.length → b ≠ g) (x y z : Value) :
    Lies f (((w.setCell ⟨g, 0, none⟩ x).setCell ⟨g, 1, none⟩ y).setCell ⟨g, 2, none⟩ z) A l := by
  intro j hj
  obtain ⟨b, off, rfl, hc⟩ := h j hj
  exact ⟨b, off, rfl, (three_far (hne _ _ _ rfl (by omega)) x y z).trans hc⟩
theorem below_three {w w' : World} {B g : Nat} (h : Below B w w') (hg : B ≤ g) (x y z : Value) : Below B w (((w'.setCell ⟨g, 0, none⟩ x).setCell ⟨g, 1, none⟩ y).setCell ⟨g, 2, none⟩ z) :=
  ((h.setCell (p := ⟨g, 0, none⟩) hg _).setCell (p := ⟨g, 1, none⟩) hg _).setCell (p := ⟨g, 2, none⟩) hg _
end Go.Proofs.YtcbkbdoaaaofjaaGreat

/-
  What a call may change: blocks of a list, and what is made in it.
-/
namespace Go.Proofs.YtcbkbdoaaaofjaaGreat
open Go.RowKit

structure But (S : List Nat) (w w' : World) : Prop where
  os : w'.os = w.os
  tape : w'.tape = w.tape
  output : w'.output = w.output
  size : w.heap.size ≤ w'.heap.size
  block : ∀ k, k < w.heap.size → k ∉ S → w'.heap[k]? = w.heap[k]?

section
variable {S T : List Nat} {a b w w' : World}
theorem But.refl (S : List Nat) (w : World) : But S w w := ⟨rfl, rfl, rfl, Nat.le_refl _, fun _ _ _ => rfl⟩
theorem But.trans (h : But S a b) (k : But S b w) : But S a w :=
  ⟨k.os.trans h.os, k.tape.trans h.tape, k.output.trans h.output, Nat.le_trans h.size k.size, fun i hi hn => (k.block i (Nat.lt_of_lt_of_le hi h.size) hn).trans (h.block i hi hn)⟩
theorem But.mono (h : But S w w') (hS : ∀ k ∈ S, k ∈ T) : But T w w' := ⟨h.os, h.tape, h.output, h.size, fun k hk hn => h.block k hk fun hm => hn (hS k hm)⟩
theorem But.of_below {B : Nat} (h : Below B w w') (hB : w.heap.size ≤ B) (S : List Nat := []) : But S w w' := ⟨h.os, h.tape, h.output, h.size, fun k hk _ => h.block k (Nat.lt_of_lt_of_le hk hB)⟩
theorem But.below {B : Nat} (h : But S w w') (hS : ∀ k ∈ S, B ≤ k) (hB : B ≤ w.heap.size) : Below B w w' := ⟨h.os, h.tape, h.output, h.size, fun k hk => h.block k (Nat.lt_of_lt_of_le hk hB) fun hm => absurd (hS k hm) (by omega)⟩
theorem But.then_below (h : But S a w) (k : Below w.heap.size w w') : But S a w' := h.trans (But.of_below k (Nat.le_refl _) S)
theorem But.then_low (h : But S a w) (k : Below a.heap.size w w') : But S a w' :=
  ⟨k.os.trans h.os, k.tape.trans h.tape, k.output.trans h.output, Nat.le_trans h.size k.size, fun i hi hn => (k.block i hi).trans (h.block i hi hn)⟩
theorem But.of_low {B : Nat} (h : Below B w w') : But ((List.range w.heap.size).filter fun k => decide (B ≤ k)) w w' :=
  ⟨h.os, h.tape, h.output, h.size, fun k hk hn => h.block k (by
    rcases Nat.lt_or_ge k B with h1 | h1
    · exact h1
    · exact absurd (List.mem_filter.2 ⟨List.mem_range.2 hk, by simpa using h1⟩) hn)⟩
theorem But.alloc (h : But S a w) (o : Obj) : But S a (w.alloc o) := h.then_below ((Below.refl _ _).alloc (Nat.le_refl _) o)
theorem But.drewN (h : But S a w) (n : Nat) : But S a (w.drewN n) := ⟨h.os, h.tape, h.output, h.size, h.block⟩
theorem But.setCell (h : But S a w) {p : Addr} (hp : p.block ∈ S ∨ a.heap.size ≤ p.block) (u : Value) : But S a (w.setCell p u) := by
  refine ⟨h.os, h.tape, h.output, by rw [show (w.setCell p u).heap.size = w.heap.size by simp [World.setCell]]; exact h.size, fun k hk hn => ?_⟩
  rw [Below.heap_setCell w p u k (by rintro rfl; rcases hp with hp | hp; exact hn hp; omega)]
  exact h.block k hk hn
theorem But.cell (h : But S w w') {p : Addr} (hp : p.block < w.heap.size) (hn : p.block ∉ S) : w'.cell? p = w.cell? p := World.cell?_of_block (w := w) (h.block p.block hp hn)
theorem But.grown {row : Option Nat} (h : But S a w) (hg : w.grownBy w' row) (hr : ∀ k, row = some k → k ∈ S ∨ a.heap.size ≤ k) : But S a w' := by
  refine ⟨hg.os.trans h.os, hg.tape.trans h.tape, hg.output.trans h.output, Nat.le_trans h.size hg.size, fun k hk hn => ?_⟩
  rw [hg.block k (Nat.lt_of_lt_of_le hk h.size) (fun e => by rcases hr k e.symm with h1 | h1; exact hn h1; omega)]
  exact h.block k hk hn
theorem Lies.but {α : Type} {f : α → Value} {A : Option Addr} {l : List α} (h : Lies f w A l) (hb : But S w w') (hn : ∀ b o s, A = some ⟨b, o, s⟩ → 0 < l.length → b ∉ S) : Lies f w' A l := by
  intro j hj
  obtain ⟨b, off, rfl, hc⟩ := h j hj
  exact ⟨b, off, rfl, (hb.cell (p := ⟨b, off + j, none⟩) (World.block_lt_of_cell? w _ hc) (hn _ _ _ rfl (by omega))).trans hc⟩
theorem row_but {g : Nat} {o : Obj} (h : w.heap[g]? = some o) (hb : But S w w') (hn : g ∉ S) : w'.heap[g]? = some o := (hb.block g (row_lt h) hn).trans h
theorem own_but {B e k n : Nat} {v : Value} {xs : List Value} (h : w.ownsRow B e k v n xs) (hb : But S w w') (hn : ∀ g, v.ownBlock = some g → g ∉ S) : w'.ownsRow B e k v n xs := by
  refine ⟨h.1, ?_⟩
  rcases h.2 with h' | ⟨g, cap, cur, rfl, hbg, hg, rest⟩
  · exact .inl h'
  · exact .inr ⟨g, cap, cur, rfl, hbg, row_but hg hb (hn g rfl), rest⟩
/-- Cells of a number do not lie in a row whose cells are none. -/
theorem far_row {g : Nat} {cs : Array Value} {t : TypeId} {fr : Nat × Nat} {α : Type} {f : α → Value} {A : Option Addr} {l : List α} (hg : w.heap[g]? = some (.cells cs t fr)) (h : Lies f w A l) (hne : ∀ (x : α) (i : Nat) (v : Value), cs[i]? = some v → f x ≠ v) : ∀ b o s, A = some ⟨b, o, s⟩ → 0 < l.length → b ∉ [g] := by
  rintro b o s rfl h0 hm
  obtain rfl : b = g := by simpa using hm
  obtain ⟨b', o', e, hc⟩ := h 0 h0
  cases e
  rw [cell_of_row w _ _ _ _ _ hg] at hc
  exact hne _ _ _ hc rfl
end
end Go.Proofs.YtcbkbdoaaaofjaaGreat
