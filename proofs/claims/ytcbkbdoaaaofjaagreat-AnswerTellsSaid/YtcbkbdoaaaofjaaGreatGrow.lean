
/-
  What the landed stream calls of Go's library: slices.Grow of nil, slices.Concat of two, bytes.Clone.
-/
import Derived.Test.YtcbkbdoaaaofjaaGreatKit
import Derived.Lib.AppendZerosOnto
import Derived.Lib.AppendZeros
import Derived.Lib.SliceRun
namespace Go.Proofs.YtcbkbdoaaaofjaaGreat
open Go.RowKit

/-- The result of a call that is the call's own row of these bytes. -/
def OwnBytes (w : World) (l : List UInt8) (e : Ending) (w' : World) : Prop :=
  ∃ A n c, e = .returned (.slice A n c) ∧ l.length = n ∧ w'.ownsRow w.heap.size 5 1 (.slice A n c) n (l.map u8v) ∧ Below w.heap.size w w'

theorem zeroCells_len (k : Nat) : (Builtin.zeroCells #[Value.int .u8 0] k).size = k := by
  simp [Builtin.zeroCells]

set_option maxRecDepth 100000 in
set_option maxHeartbeats 1000000 in
theorem grow_nil (n : Nat) (hm : n ≤ 140737488355328) (w : World) :
    Calls Tryz.prog 139 #[.slice none 0 0, .int .i64 n] w (OwnBytes w []) := by
  by_cases h0 : n = 0
  · subst h0
    go_enter Tryz.func139, Tryz.ntmps139
    go_wp2
    go_ret
    exact ⟨_, _, _, rfl, rfl, World.ownsRow_nil _ _ _ _, Below.refl _ _⟩
  · obtain ⟨i0, hi0, hi1, hi2, hi3⟩ := info_parts kit8.hi
    have hk : 0 < n := by omega
    have hk1 : (n : Int) > 0 := by omega
    have hold : (Builtin.firstCells i0.size 0 (.slice none 0 0)).run Tryz.prog w.drew = .ok ([] : List Value).toArray w.drew := run_firstCells_none w.drew _ 0 0 0
    have hrz : ∀ ty, (Builtin.append_ #[31, 3] ty #[.slice none 0 0, .int .i64 n]).run Tryz.prog w = _ := fun ty => Lib.run_append_grow_zeros w 31 3 ty 5 i0 (.int .u8 0) .i64 .i64 kit8.ht Tryz.underlying3 hi0 hi1 none 0 0 [] hold n hk (by rw [hi2]; omega) (by omega) (by omega) (by rw [hi3]; omega) (by rw [hi3]; exact growslice_fits (by omega) (by omega))
    have hG := grownCap_ge w (0 + n) 0 5
    have hG2 := grownCap_le_maxLen w (0 + n) 0 5 (by unfold maxLen; omega)
    generalize grownCap w (0 + n) 0 5 = G at *
    have hO : (w.drew.alloc (.cells (([] : List Value).toArray ++ Builtin.zeroCells (Value.int .u8 0).cells n ++ Builtin.zeroCells (Value.int .u8 0).cells (G - (0 + n))) 5)).ownsRow w.heap.size 5 1 (.slice (some ⟨w.heap.size, 0, none⟩) 0 G) 0 (([] : List UInt8).map u8v) := by
      refine ⟨rfl, .inr ⟨w.heap.size, G, _, rfl, Nat.le_refl _, heap_alloc_new w.drew _, Nat.zero_le _, hG2, ?_, by simp⟩⟩
      have h1 := zeroCells_len n
      have h2 := zeroCells_len (G - (0 + n))
      simp [Value.cells, Array.size_append] at *
      omega
    have hB : Below w.heap.size w (w.drew.alloc (.cells (([] : List Value).toArray ++ Builtin.zeroCells (Value.int .u8 0).cells n ++ Builtin.zeroCells (Value.int .u8 0).cells (G - (0 + n))) 5)) := (drewN_below (Below.refl _ w) 1).alloc (Nat.le_refl _) _
    generalize w.drew.alloc (.cells (([] : List Value).toArray ++ Builtin.zeroCells (Value.int .u8 0).cells n ++ Builtin.zeroCells (Value.int .u8 0).cells (G - (0 + n))) 5) = w1 at *
    unfold maxLen at hG2
    clear hold hi1 hi2 hi3
    go_enter Tryz.func139, Tryz.ntmps139
    go_wp2_with (at_builtin; refine Lib.wpList_append_run _ rfl _ _ _ _ rfl _ _ rfl rfl _ _ (hrz _) ?_)
    go_ret
    exact ⟨_, _, _, rfl, rfl, hO, hB⟩

set_option maxRecDepth 100000 in
set_option maxHeartbeats 2000000 in
theorem concat_two (g : Nat) (A1 A2 : Option Addr) (n1 n2 c1 c2 : Nat) (l1 l2 : List UInt8) (h1 : l1.length = n1) (h2 : l2.length = n2) (hm : n1 + n2 ≤ 1000000) (w : World)
    (hc1 : w.cell? ⟨g, 0, none⟩ = some (.slice A1 n1 c1)) (hc2 : w.cell? ⟨g, 1, none⟩ = some (.slice A2 n2 c2)) (hl1 : Lies u8v w A1 l1) (hl2 : Lies u8v w A2 l2) :
    Calls Tryz.prog 124 #[.slice (some ⟨g, 0, none⟩) 2 2] w (OwnBytes w (l1 ++ l2)) := by
  have H1 := Lib.hid h1
  have H2 := Lib.hid h2
  have HL1 := Lib.hid hl1
  have HL2 := Lib.hid hl2
  have hlt := World.block_lt_of_cell? _ _ hc1
  have i1 : IntKind.i64.wrap ((n1 : Int) + (n2 : Int)) = ((n1 + n2 : Nat) : Int) := by rw [IntKind.wrap_i64]; omega
  have i2 : IntKind.i64.wrap (n1 : Int) = (n1 : Int) := by rw [IntKind.wrap_i64]; omega
  have i3 : ¬ (((n1 + n2 : Nat) : Int) < 0) := by omega
  have i4 : ¬ ((n1 : Int) < 0) := by omega
  have j0 : IntKind.i64.wrap 1 = 1 := by decide
  have j1 : IntKind.i64.wrap (1 + 1) = 2 := by decide
  clear h1 h2 hl1 hl2
  go_enter Tryz.func124, Tryz.ntmps124
  go_wp2
  go_loopw [3, 11] (fun s i wr => wr = w ∧ (i = .int .i64 0 ∧ s = .int .i64 0 ∨ i = .int .i64 1 ∧ s = .int .i64 n1 ∨ i = .int .i64 2 ∧ s = .int .i64 (n1 + n2 : Nat))) (fun _ i _ => 2 - (intOf i).toNat)
  case atStart => exact ⟨rfl, .inl ⟨rfl, rfl⟩⟩
  case round =>
    obtain ⟨hw, ⟨rfl, rfl⟩ | ⟨rfl, rfl⟩ | ⟨rfl, rfl⟩⟩ := hrel
    all_goals obtain rfl : w = wr := hw.symm
    · go_wp2
      go_roundw
      case rel => exact ⟨trivial, .inr (.inl ⟨rfl, by simp⟩)⟩
      case measure => simp [intOf]
    · go_wp2
      go_roundw
      case rel => exact ⟨trivial, .inr (.inr ⟨rfl, by simp⟩)⟩
      case measure => simp [intOf]
    · go_wp2_with fail
      refine (grow_nil (n1 + n2) (by omega) _).mono ?_
      rintro e w1 ⟨A, n, c, rfl, h0, hown, hb1⟩
      subst h0
      have hd1 := (hb1.cell (p := ⟨g, 0, none⟩) hlt).trans hc1
      have hd2 := (hb1.cell (p := ⟨g, 1, none⟩) hlt).trans hc2
      go_wp2
      go_loopw [6, 27] (fun o i wr => ∃ (A : Option Addr) (n c : Nat) (l : List UInt8), o = .slice A n c ∧ wr.ownsRow w.heap.size 5 1 (.slice A n c) n (l.map u8v) ∧ Below w.heap.size w wr ∧ (i = .int .i64 0 ∧ l = [] ∧ n = 0 ∨ i = .int .i64 1 ∧ l = l1 ∧ n = n1 ∨ i = .int .i64 2 ∧ l = l1 ++ l2 ∧ n = n1 + n2)) (fun _ i _ => 2 - (intOf i).toNat)
      case atStart => exact ⟨A, _, c, [], rfl, hown, hb1, .inl ⟨rfl, rfl, rfl⟩⟩
      case round =>
        obtain ⟨A, n, c, l, rfl, hown, hb1, ⟨rfl, rfl, rfl⟩ | ⟨rfl, rfl, rfl⟩ | ⟨rfl, rfl, rfl⟩⟩ := hrel
        · have hd1 := (hb1.cell (p := ⟨g, 0, none⟩) hlt).trans hc1
          have hz := hb1.size
          go_wp2_with (at_builtin; go_must (refine wpList_append_lies kit8 one8 _ rfl (.tmp 31) (.tmp 32) rfl w.heap.size _ 0 [] rfl hown A1 n1 c1 l1 rfl H1.out (HL1.out.below hb1 (Nat.le_refl _)) (by omega) (by unfold maxLen; omega) hz ?_; intro A' c' w' hown' _ hb'))
          go_roundw
          case rel =>
            rw [Nat.zero_add] at hown'
            exact ⟨A', n1, c', l1, rfl, hown', hb1.trans hb', .inr (.inl ⟨rfl, rfl, rfl⟩)⟩
          case measure => simp [intOf]
        · have hd1 := (hb1.cell (p := ⟨g, 1, none⟩) hlt).trans hc2
          have hz := hb1.size
          go_wp2_with (at_builtin; go_must (refine wpList_append_lies kit8 one8 _ rfl (.tmp 31) (.tmp 32) rfl w.heap.size _ n l rfl hown A2 n2 c2 l2 rfl H2.out (HL2.out.below hb1 (Nat.le_refl _)) (by omega) (by unfold maxLen; omega) hz ?_; intro A' c' w' hown' _ hb'))
          go_roundw
          case rel => exact ⟨A', n + n2, c', l ++ l2, rfl, hown', hb1.trans hb', .inr (.inr ⟨rfl, rfl, rfl⟩)⟩
          case measure => simp [intOf]
        · go_wp2
          go_ret
          exact ⟨A, _, c, rfl, by rw [List.length_append, H1.out, H2.out], hown, hb1⟩

set_option maxRecDepth 100000 in
set_option maxHeartbeats 1000000 in
theorem clone_any (A : Option Addr) (n c : Nat) (l : List UInt8) (hn : l.length = n) (hm : n ≤ 1000000) (w : World) (h : Lies u8v w A l) :
    Calls Tryz.prog 140 #[.slice A n c] w (OwnBytes w l) := by
  have H := Lib.hid hn
  have q : ∀ (w : World) (a : Option Addr) (n c n' c' : Nat), (binOp .eql 31 (.slice a n c) (.slice none n' c')).run Tryz.prog w = .ok (.bool a.isNone) w := fun w a n c n' c' => Lib.run_eql_slice_nil w _ _ a n c n' c' kit8.ht
  rcases A with _ | ⟨b, o, s⟩
  · have hl : l = [] := by
      rcases l with _ | ⟨y, r⟩
      · rfl
      · obtain ⟨_, _, h, _⟩ := h 0 (by simp)
        cases h
    clear hn h
    go_enter Tryz.func140, Tryz.ntmps140
    go_wp2
    go_ret
    subst hl
    exact ⟨_, _, _, rfl, rfl, World.ownsRow_nil _ _ _ _, Below.refl _ _⟩
  · clear hn
    go_enter Tryz.func140, Tryz.ntmps140
    go_wp2_with (at_builtin; go_must (refine wpList_append_lies kit8 one8 _ rfl (.tmp 5) (.tmp 6) rfl w.heap.size _ 0 [] rfl (own_lit u8v w #[] _ _ _ 0 [] rfl rfl (Nat.le_refl _) rfl (Nat.zero_le _)) _ n c l rfl H.out (h.alloc _) (by omega) (by unfold maxLen; omega) (by simp) ?_; intro A2 c2 w2 hown2 _ hb2; rw [Nat.zero_add] at hown2))
    go_ret
    exact ⟨A2, n, c2, rfl, H.out, hown2, ((Below.refl _ w).alloc (Nat.le_refl _) _).trans hb2⟩
end Go.Proofs.YtcbkbdoaaaofjaaGreat
