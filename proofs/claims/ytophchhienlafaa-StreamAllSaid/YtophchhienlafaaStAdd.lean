/-
  The landed stream's own small methods: add, leave, drop.
-/
import Derived.Test.YtophchhienlafaaSt0
namespace Go.Proofs.Ytophchhienlafaa
open Go.RowKit

set_option maxRecDepth 100000 in
set_option maxHeartbeats 1000000 in
theorem drop_any {F : Nat → Prop} (g : Nat) (r : List UInt8) (bad : Bool) (w : World) (h : StRow w g r bad F) :
    Calls Try.prog 17 #[.pointer (some ⟨g, 0, none⟩)] w fun e w' => e = .returned (.tuple #[]) ∧ (∀ G, StRow w' g [] bad G) ∧ But [g] w w' := by
  obtain ⟨A0, n0, c0, h1, h2, _⟩ := h
  obtain ⟨hr0, hr1, hz0, hz1⟩ := row_two h1
  have hlt := row_lt h1
  have H1 := Lib.hid h1
  clear h1 h2
  go_enter Try.func17, Try.ntmps17
  go_wp2
  go_end0
  exact ⟨rfl, fun G => ⟨none, 0, 0, one_stored H1.out _, rfl, Nat.le_refl _, Nat.zero_le _, Lies.nil _ _, by rintro _ _ _ h; cases h⟩, (But.refl _ _).setCell (.inl (by simp)) _⟩
#print axioms drop_any

theorem lies_off {α : Type} {f : α → Value} {w : World} {A : Option Addr} {l : List α} (h : Lies f w A l) (d : Nat) : Lies f w (A.map fun x => x.add d) (l.drop d) := by
  intro j hj
  rw [List.length_drop] at hj
  obtain ⟨b, off, rfl, hc⟩ := h (d + j) (by omega)
  refine ⟨b, off + d, ?_, ?_⟩
  · rw [Option.map_some, Addr.add_lit]
  · rw [List.getElem_drop, Nat.add_assoc]
    exact hc
/-- A row whose slice is stored anew. -/
theorem StRow.stored {w0 w : World} {g : Nat} {A0 A : Option Addr} {n0 c0 n c : Nat} {bad : Bool} {b : List UInt8} (hg : w.heap[g]? = some (.cells #[.slice A0 n0 c0, .bool bad] 52 (0, 0))) (hlt : g < w0.heap.size) (hn : b.length = n)
    (hown : w.ownsRow w0.heap.size 5 1 (.slice A n c) n (b.map u8v)) (hb : Below w0.heap.size w0 w) : StRow (w.setCell ⟨g, 0, none⟩ (.slice A n c)) g b bad (fun b => w0.heap.size ≤ b) ∧ But [g] w0 (w.setCell ⟨g, 0, none⟩ (.slice A n c)) := by
  obtain ⟨h1, h2, h3, h4⟩ := own_at hown
  have hf : ∀ b o s, A = some ⟨b, o, s⟩ → w0.heap.size ≤ b := by
    intro b o s e
    subst e
    exact (hown.lt b rfl).1
  refine ⟨⟨A, n, c, one_stored hg _, hn, h1, h2, ?_, fun b o s e _ => hf b o s e⟩, (But.of_below hb (Nat.le_refl _) [g]).setCell (.inl (by simp)) _⟩
  intro j hj
  obtain ⟨b, off, e, hc⟩ := h4 j hj
  have := hf b off none e
  exact ⟨b, off, e, (cell_far (by omega) _).trans hc⟩

set_option maxRecDepth 100000 in
set_option maxHeartbeats 1000000 in
theorem leave_any {F : Nat → Prop} (g : Nat) (r : List UInt8) (d : Nat) (bad : Bool) (hd : d ≤ r.length) (hm : r.length ≤ 1000000) (w : World) (h : StRow w g r bad F) :
    Calls Try.prog 23 #[.pointer (some ⟨g, 0, none⟩), .int .i64 d] w fun e w' => e = .returned (.tuple #[]) ∧ StRow w' g (r.drop d) bad (fun b => w.heap.size ≤ b) ∧ But [g] w w' := by
  obtain ⟨A0, n0, c0, h1, h2, h3, h4, h5, h6⟩ := h
  obtain ⟨hr0, hr1, hz0, hz1⟩ := row_two h1
  have hlt := row_lt h1
  have H1 := Lib.hid h1
  have hd' : d ≤ n0 := by omega
  have HN : Hid ((r.drop d).length = n0 - d) := Lib.hid (by rw [List.length_drop, h2])
  have i1 : (d : Int) ≤ (n0 : Int) := by omega
  have hm' : n0 ≤ 1000000 := by omega
  unfold maxLen at h4
  clear h1 h2 hd hm h6
  go_enter Try.func23, Try.ntmps23
  go_wp2_with fail
  · rename_i hcd _
    have h0 : n0 - d = 0 := by omega
    rw [h0] at HN ⊢
    have HE := Lib.hid (List.eq_nil_of_length_eq_zero HN.out)
    refine (clone_any A0 0 0 [] rfl (by omega) _ (Lies.nil _ _)).mono ?_
    rintro e w1 ⟨A1, n1, c1, rfl, hn1, hown, hb1⟩
    have hq0 := (hb1.cell (p := ⟨g, 0, none⟩) hlt).trans hr0
    obtain ⟨_, _, hf0, _⟩ := row_two ((hb1.block g hlt).trans H1.out)
    go_wp2_with fail
    go_end0
    rw [HE.out]
    exact ⟨rfl, StRow.stored ((hb1.block g hlt).trans H1.out) hlt hn1 hown hb1⟩
  · have HL := Lib.hid (lies_off h5 d)
    refine (clone_any _ _ _ _ HN.out (by omega) _ HL.out).mono ?_
    rintro e w1 ⟨A1, n1, c1, rfl, hn1, hown, hb1⟩
    have hq0 := (hb1.cell (p := ⟨g, 0, none⟩) hlt).trans hr0
    obtain ⟨_, _, hf0, _⟩ := row_two ((hb1.block g hlt).trans H1.out)
    go_wp2_with fail
    go_end0
    exact ⟨rfl, StRow.stored ((hb1.block g hlt).trans H1.out) hlt hn1 hown hb1⟩
#print axioms leave_any

set_option maxRecDepth 100000 in
set_option maxHeartbeats 1000000 in
theorem add_any {F : Nat → Prop} (g : Nat) (r c : List UInt8) (bad : Bool) (A : Option Addr) (n k : Nat) (hn : c.length = n) (hm : r.length + n ≤ 1000000) (w : World) (hc : Lies u8v w A c) (h : StRow w g r bad F) :
    Calls Try.prog 15 #[.pointer (some ⟨g, 0, none⟩), .slice A n k] w fun e w' => e = .returned (.tuple #[]) ∧ StRow w' g (r ++ c) bad (fun b => w.heap.size ≤ b) ∧ But [g] w w' := by
  obtain ⟨A0, n0, c0, h1, h2, h3, h4, h5, h6⟩ := h
  obtain ⟨hr0, hr1, hz0, hz1⟩ := row_two h1
  have hlt := row_lt h1
  have H1 := Lib.hid h1
  have H2 := Lib.hid h2
  have H3 := Lib.hid hn
  have hm' : n0 + n ≤ 1000000 := by omega
  clear h1 h2 hn hm h6
  go_enter Try.func15, Try.ntmps15
  go_wp2_with fail
  have hb0 : Below w.heap.size w (w.alloc (.cells #[.slice A0 n0 c0, .slice A n k] 24)) := (Below.refl _ w).alloc (Nat.le_refl _) _
  obtain ⟨hd0, hd1, _, _⟩ := row_two (heap_alloc_new w (.cells #[.slice A0 n0 c0, .slice A n k] 24))
  refine (concat_two w.heap.size A0 A n0 n c0 k r c H2.out H3.out hm' _ hd0 hd1 (h5.alloc _) (hc.alloc _)).mono ?_
  rintro e w1 ⟨A1, n1, c1, rfl, hn1, hown, hb1⟩
  have hbe : Below w.heap.size w w1 := hb0.trans (hb1.mono (by simp))
  have hown' := own_lower (B' := w.heap.size) hown (by simp)
  have hrow := (hbe.block g hlt).trans H1.out
  obtain ⟨hq0, _, hf0, _⟩ := row_two hrow
  clear hb0 hd0 hd1 hown hb1
  go_wp2_with fail
  go_end0
  exact ⟨rfl, StRow.stored hrow hlt hn1 hown' hbe⟩
#print axioms add_any
end Go.Proofs.Ytophchhienlafaa
