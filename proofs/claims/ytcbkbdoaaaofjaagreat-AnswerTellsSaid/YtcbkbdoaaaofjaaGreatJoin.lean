
/-
  The generic join, of words and of bits.
-/
import Derived.Test.YtcbkbdoaaaofjaaGreatChunk
import Derived.Test.YtcbkbdoaaaofjaaGreatSmall
namespace Go.Proofs.YtcbkbdoaaaofjaaGreat
open Go.RowKit Go.Shelf

attribute [local go_sem] Oper.semAt_some

theorem Word.fin_map {β : Type} (n : Nat) (g : Nat → β) : (List.finRange n).map (fun k => g k.val) = (List.range n).map g := by
  apply List.ext_getElem
  · simp
  · intro i h1 h2
    simp
theorem Word.fin_pack (ws : List Bool) : ((List.finRange ((ws.length + 7) / 8)).map fun k => Word.packAt ws k.val) = Word.pack ws := Word.fin_map _ (Word.packAt ws)

/-- A call that gives back a longer row of the call's own, and the store into the variable's box: what the walk owes. -/
theorem boxed_called {W w1 : World} {n₀ B : Nat} {t e : TypeId} {size : Nat} {v v' : Value} {k m : Nat} {xs ys : List Value}
    (hv : Boxed W B t v) (hte : t ≠ e) (hrow : W.ownsRow n₀ e size v k xs) (hn₀ : n₀ ≤ W.heap.size) (hB : n₀ ≤ B)
    (hown' : w1.ownsRow n₀ e size v' m ys) (hgrow : W.grownBy w1 v.ownBlock) :
    Boxed w1 B t v ∧ Boxed (w1.setCell ⟨B, 0, none⟩ v') B t v' ∧ (w1.setCell ⟨B, 0, none⟩ v').ownsRow n₀ e size v' m ys ∧ KeepsOthers W (w1.setCell ⟨B, 0, none⟩ v') ∧ Below n₀ W (w1.setCell ⟨B, 0, none⟩ v') := by
  have hv1 : Boxed w1 B t v := hv.kept hgrow (hv.not_row hte hrow)
  refine ⟨hv1, hv1.set v', hown'.kept (grownBy_setCell' w1 B v') (.inr (hv1.not_row hte hown').symm), ?_, ?_⟩
  · refine (KeepsOthers.of_grownBy hgrow fun j o ej hj => ?_).trans (KeepsOthers.setCell _ _ _)
    rcases hrow.2 with ⟨rfl, _⟩ | ⟨g, cap, cur, rfl, _, hgb, _⟩
    · simp [Value.ownBlock] at ej
    · obtain rfl : g = j := by simpa [Value.ownBlock] using ej
      rw [hgb] at hj; cases hj; rfl
  · refine ((Below.refl n₀ W).grown hgrow hn₀ fun j ej => ?_).setCell (p := ⟨B, 0, none⟩) hB v'
    rcases hrow.2 with ⟨rfl, _⟩ | ⟨g, cap, cur, rfl, hb, _, _⟩
    · simp [Value.ownBlock] at ej
    · obtain rfl : g = j := by simpa [Value.ownBlock] using ej
      exact hb

set_option maxRecDepth 100000 in
set_option maxHeartbeats 2000000 in
theorem join16_any (Bs len cap sz : Nat) (S : Int) (hS : S = (sz : Int)) (A : Option Addr) (ws : List UInt16) (hl : ws.length = len) (hsz : sz ≤ 100000) (hlen : len ≤ 20000) (w : World) (hs : w.cell? ⟨Bs, 0, none⟩ = some (.slice A len cap)) (hL : Lies u16v w A ws) :
    Calls Tryz.prog 108 #[.func (.func 134) #[] #[.pointer (some ⟨Bs, 0, none⟩)], .int .i64 S, .func (.func 110) #[] #[]] w fun e w' =>
      ∃ A' c', e = .returned (.slice A' (2 * len) c') ∧ 2 * len ≤ c' ∧ c' ≤ maxLen ∧ Lies u8v w' A' (Word.bytes ws) ∧ Below w.heap.size w w' ∧ ∀ b o s, A' = some ⟨b, o, s⟩ → w.heap.size ≤ b := by
  subst hl
  subst hS
  have hBs : Bs < w.heap.size := World.block_lt_of_cell? w _ hs
  obtain ⟨i0, hi0, hz0, hz1, hz2⟩ := info_parts kit8.hi
  refine (callsIn_wide (n := 5)).1 ?_
  refine callsIn_of_wp_marks Tryz.func108 rfl trivial ?_ rfl
  simp only [Tryz.ntmps108, List.size_toArray, List.length_cons, List.length_nil, Nat.reduceAdd, Nat.reduceSub, Array.replicate_succ, Array.replicate_zero, List.push_toArray, List.append_toArray, List.nil_append, List.cons_append]
  have bF := Boxed.new w 133 (.func (.func 110) #[] #[])
  gi_wp2_with (first
    | (gi_at_make; go_must (refine wpListIn_make_own _ rfl _ _ 31 rfl w.heap.size 5 i0 (.int .u8 0) 1 kit8.ht hi0 hz0 hz1 .i64 .i64 _ sz rfl rfl rfl (by rw [hz2]; omega) (by unfold maxLen; omega) (by simp) ?_); intro w1 hown1 hg1))
  have hb1 : Below w.heap.size w w1 := ((Below.refl _ w).alloc (Nat.le_refl _) _).grown hg1 (by simp) (by simp)
  have bF1 := bF.kept hg1 (by simp)
  have hz1' : w.heap.size + 1 ≤ w1.heap.size := by have := hg1.size; simpa using this
  rw [World.size_alloc] at hown1
  generalize Value.slice (some { block := w.heap.size + 1, off := 0 }) 0 sz = v0 at hown1 ⊢
  have bA := Boxed.new w1 31 v0
  have hB0 : Below w.heap.size w (w1.alloc (.cells #[v0] 31)) := hb1.alloc hb1.size _
  have hs0 := (hB0.cell (p := ⟨Bs, 0, none⟩) hBs).trans hs
  refine wpIn_rangeFunc_ownG rfl (by omega) (gf := 134) (lb := #[.pointer (some ⟨Bs, 0, none⟩)]) rfl trivial (enters_of Tryz.func134 (by kernel_rfl) rfl)
    (values_stops Fence.wide (5 - 1) trivial rfl (by omega) Bs w.heap.size cap A ws (by omega) _ (by simp; omega) (by simp; omega) hs0 w rfl hB0 hL) belowK_t (belowK_b (by simp; omega)) (Below.refl _ _) (fun _ => rfl)
    (fun pre W => ((∃ v, Boxed W w1.heap.size 31 v ∧ W.ownsRow w.heap.size 5 1 v (2 * pre.length) ((Word.bytes pre).map u8v) ∧ True) ∧ Boxed W w.heap.size 133 (.func (.func 110) #[] #[])) ∧ Below w.heap.size w W)
    (fun _ _ _ => False)
    (OwnFrom.and (OwnFrom.and (Own.from (holdsRow_own w.heap.size w1.heap.size 31 5 1 (fun pre => 2 * pre.length) (fun pre => (Word.bytes pre).map u8v) (fun _ _ => True)) _) (Own.from (boxed_own _ _ _) _)) (ownFrom_below (Nat.le_refl _) (by simp; omega)))
    (fun _ _ _ _ _ hs _ _ => hs)
    ⟨⟨⟨_, bA, hown1.alloc _, trivial⟩, bF1.alloc _⟩, hB0⟩
    (fun x => { tmps := #[.func (.func 134) #[] #[.pointer (some ⟨Bs, 0, none⟩)], .int .i64 sz, .func (.func 110) #[] #[], undef, undef, .pointer (some ⟨w.heap.size, 0, none⟩), .slice none 0 0, .pointer (some ⟨w1.heap.size, 0, none⟩), u16v x, .int .i64 sz, v0, .func (.func 134) #[] #[.pointer (some ⟨Bs, 0, none⟩)], u16v x, undef, undef, undef, undef, undef], defers := [] }) ?assign ?body ?done ?stop
  case assign =>
    intro l x W K hK
    gi_wp2
    exact hK
  case body =>
    rintro l pre x W ⟨⟨⟨v, hv, hrow, -⟩, hF⟩, hB⟩ hlt
    have hc := hv.cell
    have hcF := hF.cell
    gi_wp2_with (refine ⟨trivial, ?_⟩; gi_at_call 110; refine (CallsIn.inRound l (callsIn_wide.2 (layWord_any x w.heap.size v (2 * pre.length) (Word.bytes pre) W hrow hB.size (by omega)))).mono ?_; rintro e w2 ⟨A2, c2, rfl, hown2, hg2⟩; obtain ⟨hv1, hv2, hr2, hk2, hb2⟩ := boxed_called hv (by decide) hrow hB.size hb1.size hown2 hg2; have hc1 := hv1.cell; have hf1 := hv1.frozen)
    refine ⟨hk2.from _, hb2, ⟨⟨_, hv2, ?_, trivial⟩, (hF.kept hg2 (hF.not_row (by decide) hrow)).other (by omega) _⟩, hB.trans hb2⟩
    rw [Word.bytes_snoc, List.length_append, List.length_singleton, Nat.mul_add, Nat.mul_one]
    exact hr2
  case done =>
    rintro D ys W hD rfl ⟨⟨⟨v, hv, hrow, -⟩, hF⟩, hB⟩ hK
    have hc := hv.cell
    gi_wp2
    refine ⟨by simp, .inl ⟨_, _, rfl, run_takeDeferred hK, ?_⟩⟩
    have hr := ownsRow_putObj hrow (.deferred none) hK rfl
    obtain ⟨A', c', rfl, _, h1, h2, h3⟩ := own_lies hr
    exact ⟨_, results_tmp rfl _ _ _, A', c', rfl, h1, h2, h3, hB.trans (belowK_b (w := w) (Nat.le_refl _) W D _ _ (by simp at hD; omega) hK rfl rfl), fun b o s e => by subst e; exact (hr.lt b rfl).1⟩
  case stop =>
    rintro D c pre W _ _ h _
    exact h.elim
set_option maxRecDepth 100000 in
set_option maxHeartbeats 2000000 in
theorem joinb_any (Bs Bm len cap sz : Nat) (S : Int) (hS : S = (sz : Int)) (hlc : len ≤ cap) (A : Option Addr) (ws : List Bool) (hl : ws.length = len) (hsz : sz ≤ 100000) (hlen : len ≤ 20000) (w : World) (hs : w.cell? ⟨Bs, 0, none⟩ = some (.slice A len cap)) (hm : w.cell? ⟨Bm, 0, none⟩ = some (.int .i64 8)) (hL : Lies bitv w A ws) :
    Calls Tryz.prog 100 #[.func (.func 125) #[] #[.pointer (some ⟨Bs, 0, none⟩), .pointer (some ⟨Bm, 0, none⟩)], .int .i64 S, .func (.func 103) #[] #[]] w fun e w' =>
      ∃ A' c', e = .returned (.slice A' ((len + 7) / 8) c') ∧ (len + 7) / 8 ≤ c' ∧ c' ≤ maxLen ∧ Lies u8v w' A' (Word.pack ws) ∧ Below w.heap.size w w' ∧ ∀ b o s, A' = some ⟨b, o, s⟩ → w.heap.size ≤ b := by
  subst hl
  subst hS
  have hBs : Bs < w.heap.size := World.block_lt_of_cell? w _ hs
  have hBm : Bm < w.heap.size := World.block_lt_of_cell? w _ hm
  obtain ⟨b, off, hA⟩ : ∃ b off, 0 < ws.length → A = some ⟨b, off, none⟩ ∧ b < w.heap.size ∧ Lies bitv w (some ⟨b, off, none⟩) ws := by
    rcases Nat.eq_zero_or_pos ws.length with h | h
    · exact ⟨0, 0, fun h' => by omega⟩
    · obtain ⟨b, off, rfl, hb, _⟩ := hL.at_ h
      exact ⟨b, off, fun _ => ⟨rfl, hb, hL⟩⟩
  obtain ⟨i0, hi0, hz0, hz1, hz2⟩ := info_parts kit8.hi
  refine (callsIn_wide (n := 5)).1 ?_
  refine callsIn_of_wp_marks Tryz.func100 rfl trivial ?_ rfl
  simp only [Tryz.ntmps100, List.size_toArray, List.length_cons, List.length_nil, Nat.reduceAdd, Nat.reduceSub, Array.replicate_succ, Array.replicate_zero, List.push_toArray, List.append_toArray, List.nil_append, List.cons_append]
  have bF := Boxed.new w 124 (.func (.func 103) #[] #[])
  gi_wp2_with (first
    | (gi_at_make; go_must (refine wpListIn_make_own _ rfl _ _ 31 rfl w.heap.size 5 i0 (.int .u8 0) 1 kit8.ht hi0 hz0 hz1 .i64 .i64 _ sz rfl rfl rfl (by rw [hz2]; omega) (by unfold maxLen; omega) (by simp) ?_); intro w1 hown1 hg1))
  have hb1 : Below w.heap.size w w1 := ((Below.refl _ w).alloc (Nat.le_refl _) _).grown hg1 (by simp) (by simp)
  have bF1 := bF.kept hg1 (by simp)
  have hz1' : w.heap.size + 1 ≤ w1.heap.size := by have := hg1.size; simpa using this
  rw [World.size_alloc] at hown1
  generalize Value.slice (some { block := w.heap.size + 1, off := 0 }) 0 sz = v0 at hown1 ⊢
  have bA := Boxed.new w1 31 v0
  have hB0 : Below w.heap.size w (w1.alloc (.cells #[v0] 31)) := hb1.alloc hb1.size _
  have hs0 := (hB0.cell (p := ⟨Bs, 0, none⟩) hBs).trans hs
  have hm0 := (hB0.cell (p := ⟨Bm, 0, none⟩) hBm).trans hm
  refine wpIn_rangeFunc_ownG rfl (by omega) (gf := 125) (lb := #[.pointer (some ⟨Bs, 0, none⟩), .pointer (some ⟨Bm, 0, none⟩)]) rfl trivial (enters_of Tryz.func125 (by kernel_rfl) rfl)
    (chunkb_stops (5 - 1) (by omega) (fun k : Fin ((ws.length + 7) / 8) => part b off 8 ws.length k.val) Bs Bm w.heap.size ws.length cap hlc A (List.finRange _) (by omega) _ hBs hBm (by simp; omega) hs0 hm0 (by simp) (fun h => ⟨b, off, (hA h).1, fun k hk => by simp⟩)) belowK_t (belowK_b (by simp; omega)) (Below.refl _ _) (fun _ => rfl)
    (fun pre W => ((∃ v, Boxed W w1.heap.size 31 v ∧ W.ownsRow w.heap.size 5 1 v pre.length ((pre.map fun k => Word.packAt ws k.val).map u8v) ∧ True) ∧ Boxed W w.heap.size 124 (.func (.func 103) #[] #[])) ∧ Below w.heap.size w W)
    (fun _ _ _ => False)
    (OwnFrom.and (OwnFrom.and (Own.from (holdsRow_own w.heap.size w1.heap.size 31 5 1 (fun pre : List (Fin ((ws.length + 7) / 8)) => pre.length) (fun pre => (pre.map fun k => Word.packAt ws k.val).map u8v) (fun _ _ => True)) _) (Own.from (boxed_own _ _ _) _)) (ownFrom_below (Nat.le_refl _) (by simp; omega)))
    (fun _ _ _ _ _ hs _ _ => hs)
    ⟨⟨⟨_, bA, hown1.alloc _, trivial⟩, bF1.alloc _⟩, hB0⟩
    (fun x => { tmps := #[.func (.func 125) #[] #[.pointer (some ⟨Bs, 0, none⟩), .pointer (some ⟨Bm, 0, none⟩)], .int .i64 sz, .func (.func 103) #[] #[], undef, undef, .pointer (some ⟨w.heap.size, 0, none⟩), .slice none 0 0, .pointer (some ⟨w1.heap.size, 0, none⟩), part b off 8 ws.length x.val, .int .i64 sz, v0, .func (.func 125) #[] #[.pointer (some ⟨Bs, 0, none⟩), .pointer (some ⟨Bm, 0, none⟩)], part b off 8 ws.length x.val, undef, undef, undef, undef, undef], defers := [] }) ?assign ?body ?done ?stop
  case assign =>
    intro l x W K hK
    gi_wp2
    exact hK
  case body =>
    rintro l pre x W ⟨⟨⟨v, hv, hrow, -⟩, hF⟩, hB⟩ hlt
    have hc := hv.cell
    have hcF := hF.cell
    have hx := x.isLt
    have hlt' : pre.length < (ws.length + 7) / 8 := by simpa using hlt
    have hL0 : Lies bitv W (some ⟨b, off + 8 * x.val, none⟩) ((ws.drop (8 * x.val)).take 8) := (((hA (by omega)).2.2.drop (8 * x.val)).take 8).below hB (Nat.le_refl _)
    have hl8 : ((ws.drop (8 * x.val)).take 8).length = min 8 (ws.length - 8 * x.val) := by rw [List.length_take, List.length_drop]
    gi_wp2_with (refine ⟨trivial, ?_⟩; gi_at_call 103; refine (CallsIn.inRound l (callsIn_wide.2 (layBits_any _ _ (min 8 (ws.length - 8 * x.val)) ((ws.drop (8 * x.val)).take 8) hl8 (by omega) w.heap.size v pre.length (pre.map fun k => Word.packAt ws k.val) W hL0 hrow hB.size (by omega)))).mono ?_; rintro e w2 ⟨A2, c2, rfl, hown2, hg2⟩; obtain ⟨hv1, hv2, hr2, hk2, hb2⟩ := boxed_called hv (by decide) hrow hB.size hb1.size hown2 hg2; have hc1 := hv1.cell; have hf1 := hv1.frozen)
    refine ⟨hk2.from _, hb2, ⟨⟨_, hv2, ?_, trivial⟩, (hF.kept hg2 (hF.not_row (by decide) hrow)).other (by omega) _⟩, hB.trans hb2⟩
    rw [List.map_append, List.length_append, List.length_singleton]
    exact hr2
  case done =>
    rintro D ys W hD rfl ⟨⟨⟨v, hv, hrow, -⟩, hF⟩, hB⟩ hK
    have hc := hv.cell
    gi_wp2
    refine ⟨by simp, .inl ⟨_, _, rfl, run_takeDeferred hK, ?_⟩⟩
    rw [List.length_finRange, Word.fin_pack] at hrow
    have hr := ownsRow_putObj hrow (.deferred none) hK rfl
    obtain ⟨A', c', rfl, _, h1, h2, h3⟩ := own_lies hr
    exact ⟨_, results_tmp rfl _ _ _, A', c', rfl, h1, h2, h3, hB.trans (belowK_b (w := w) (Nat.le_refl _) W D _ _ (by simp at hD; omega) hK rfl rfl), fun b o s e => by subst e; exact (hr.lt b rfl).1⟩
  case stop =>
    rintro D c pre W _ _ h _
    exact h.elim
end Go.Proofs.YtcbkbdoaaaofjaaGreat
